import PyProof.Rows.All
import Wide.All
import OpenK.AllK
import Wide.FinOn
import HandS.ForMost
import HandS.Wide
import HandS.WideBits
import HandS.Deep
import HandS.IsInst
import HandS.TupAny
import HandS.Flow
import HandS.Walk
import HandS.Codes
import HandS.List
import HandS.FStrTup
import HandS.Ends
import HandS.Head0
import HandS.Exc
import HandS.ExcOwn
import HandS.ExcIs
import HandS.ExcField
import HandS.WordsExc
import HandS.TryMany
import PyProof.ReprRoads
import PyProof.P3In
import PyProof.FactsAll.dict_1
import PyProof.FactsAll.subtypes_4
import KE.OsGo
import HandS.Words
import HandS.CallLocal
import HandS.StrMore
import HandS.More
import HandS.Text
import HandS.Set
import PyProof.Rows.SortShellAny
import PyProof.Rows.SetFrom
import HandS.Style
import KE.IntTextLaws
import HandS.Star
import HandS.JoinGen
import HandS.RaiseMore
import HandS.Dict
import HandS.Defaults
import PySem.Challenge.RW_vasttypes_k04_texts_of_terms
set_option Elab.async false
set_option linter.all false
set_option maxRecDepth 100000
set_option maxHeartbeats 4000000
/-! steps of a reading: names, constants, ints; then the facts of the context -/
local macro_rules | `(tactic| walk_at "ne") => `(tactic| first | assumption | exact Ne.symm (by assumption) | exact L2.ne_of_none (by assumption) (by assumption) | exact L2.ne_of_none L2.upd_same (by assumption) | exact Ne.symm (L2.ne_of_none L2.upd_same (by assumption)) | exact Ne.symm (L2.ne_of_none (by assumption) (by assumption)))
local macro_rules | `(tactic| walk_at "hp") => `(tactic| first | assumption | exact L2.upd_same | exact (L2.upd_ne (by walk_at "ne")).trans (by assumption) | exact (L2.upd_ne (by walk_at "ne")).trans L2.upd_same | exact (L2.upd_ne (by walk_at "ne")).trans ((L2.upd_ne (by walk_at "ne")).trans (by assumption)) | exact (L2.upd_ne (by walk_at "ne")).trans ((L2.upd_ne (by walk_at "ne")).trans L2.upd_same))
local macro_rules | `(tactic| walk_at "cn") => `(tactic| first | assumption | omega | rfl | (constructor <;> omega) | (refine .inl ?_; constructor <;> omega) | (refine .inr ?_; constructor <;> omega) | decide | (refine Vt.sz ?_; simp; done) | (refine Vt.sz ?_; simp; omega))
local macro_rules | `(tactic| walk_at "rd") => `(tactic| (repeat (first
  | refine ⟨_, rfl, ?_⟩
  | refine ⟨_, _, rfl, rfl, ?_⟩
  | refine .inl ⟨_, rfl, ?_⟩
  | (refine ⟨_, _, _, _, rfl, rfl, .inl (.inl (by walk_at "hp")), rfl, ?_⟩)
  | (refine ⟨_, _, _, _, rfl, rfl, (by walk_at "hp"), rfl, ?_⟩)
  | (refine And.intro (by walk_at "cn") ?_))))

namespace Vt
open PySem PySem.Spec PyProof.Rows L2
def topS (i : Nat) : Stmt := PySem.Challenge.pw_vasttypes_k04_texts_of_terms.main.body.getD i (.Pass ⟨0, 0, 0, 0⟩)
/-- a def of the text that keeps a promise, wherever it stands -/
def DefOk (P : Program) (w : World) (K : PySem.W.Frag) (mg : Str → Option Value) (base : Heap) (CX : CXT) (k : Nat) (x : Str) (ps : List Str) (sp : Sp) : Prop :=
  ∃ f fd, FnOk P w K mg base CX k f fd ps sp ∧ mg x = some (.ref f) ∧ PySem.W.keepIn K (.ref f) = true ∧ Binds K fd ps []
/-- a def as it stands behind the top -/
def Stands (K : PySem.W.Frag) (mg : Str → Option Value) (x : Str) (st : Stmt) (ps : List Str) : Prop :=
  ∃ f fd, Fun K x x st f fd ∧ mg x = some (.ref f) ∧ Binds K fd ps []
/-- the built-in names mean what they meant -/
structure Blt (mg : Str → Option Value) : Prop where
  int : mg "int" = none
  len : mg "len" = none
  list : mg "list" = none
  tuple : mg "tuple" = none
  str : mg "str" = none
  bool : mg "bool" = none
  set : mg "set" = none
  isinstance : mg "isinstance" = none
  all : mg "all" = none
  sorted : mg "sorted" = none
  range : mg "range" = none
  enumerate : mg "enumerate" = none
  zip : mg "zip" = none
  reversed : mg "reversed" = none
  repr : mg "repr" = none
/-- all but what stands at s is as it was -/
def Keep (s : Addr) (H H' : Hp) : Prop := ∀ b o, b ≠ s → H b = some o → H' b = some o
/-- the state of a source of draws: a list of three ints -/
def Src (H : Hp) (s : Addr) : Prop := ∃ x y z : Int, H s = some (.lst [.int x, .int y, .int z])
theorem Keep.refl (s : Addr) (H : Hp) : Keep s H H := fun _ _ _ h => h
theorem Keep.trans {s : Addr} {H H1 H2 : Hp} (a : Keep s H H1) (b : Keep s H1 H2) : Keep s H H2 := fun c o n h => b c o n (a c o n h)
theorem Keep.wr {s : Addr} {H : Hp} {o : HO} : Keep s H (L2.upd H s o) := fun b u n h => by rw [upd_ne n]; exact h
theorem Keep.new {s p : Addr} {H : Hp} {o : HO} (h : H p = none) : Keep s H (L2.upd H p o) := fun b u n e => by rw [upd_ne (ne_of_none e h)]; exact e
theorem Keep.mut {s p : Addr} {H H' : Hp} {o : HO} (k : Keep s H H') (h : H p = none) : Keep s H (L2.upd H' p o) := fun b u n e => by rw [upd_ne (ne_of_none e h)]; exact k b u n e
theorem _root_.L2.Same.keep {s : Addr} {H H' : Hp} (h : Same H H') : Keep s H H' := fun b o _ e => h b o e
theorem Keep.same {s : Addr} {H H1 H2 : Hp} (k : Keep s H H1) (h : Same H1 H2) : Keep s H H2 := fun b o n e => h b o (k b o n e)
theorem Src.new {s p : Addr} {H : Hp} {o : HO} (h : Src H s) (hp : H p = none) : Src (L2.upd H p o) s := by
  obtain ⟨x, y, z, e⟩ := h
  exact ⟨x, y, z, by rw [upd_ne (ne_of_none e hp)]; exact e⟩
theorem Src.same {s : Addr} {H H' : Hp} (h : Src H s) (e : Same H H') : Src H' s := by
  obtain ⟨x, y, z, q⟩ := h
  exact ⟨x, y, z, e _ _ q⟩
theorem Src.ne {s p : Addr} {H : Hp} (h : Src H s) (hp : H p = none) : p ≠ s := by
  obtain ⟨x, y, z, e⟩ := h
  exact (ne_of_none e hp).symm
theorem Src.wr {s p : Addr} {H : Hp} {o : HO} (h : Src H s) (hn : p ≠ s) : Src (L2.upd H p o) s := by
  obtain ⟨x, y, z, e⟩ := h
  exact ⟨x, y, z, by rw [upd_ne hn.symm]; exact e⟩
theorem same_new {H : Hp} {p : Addr} (h : H p = none) (o : HO) : Same H (upd H p o) := fun b u q => by rw [upd_ne (ne_of_none q h)]; exact q
theorem sz {n : Nat} (h : n ≤ 1000) : n ≤ sizeLine := Nat.le_of_lt (small1000 h)
/-- not what a source looks like -/
def No3 (xs : List V) : Prop := ∀ x y z : Int, xs ≠ [.int x, .int y, .int z]
theorem No3.of_ref {xs : List V} (h : ∀ v ∈ xs, ∀ i : Int, v ≠ .int i) : No3 xs := fun x y z e => h (.int x) (by rw [e]; exact List.mem_cons_self) x rfl
theorem no3_strs (ns : List Str) : No3 (ns.map V.str) := No3.of_ref fun v hv i e => by
  obtain ⟨n, _, q⟩ := List.mem_map.mp hv
  rw [e] at q
  cases q
theorem Keep.seq {K : PySem.W.Frag} {s a : Addr} {H H' : Hp} {xs : List V} (k : Keep s H H') (hs : Src H s) (hx : No3 xs) (h : SqL K H a xs) : SqL K H' a xs := by
  obtain ⟨x, y, z, e⟩ := hs
  rcases h with (h | ⟨o, h⟩) | h
  · refine .inl (.inl (k _ _ (fun q => ?_) h))
    rw [q, e] at h
    injection h with h
    injection h with h
    exact hx x y z h.symm
  · refine .inl (.inr ⟨o, k _ _ (fun q => ?_) h⟩)
    rw [q, e] at h
    injection h with h
    cases h
  · exact .inr h
theorem Keep.tup {K : PySem.W.Frag} {s a : Addr} {H H' : Hp} {xs : List V} (k : Keep s H H') (hs : Src H s) (h : SqT K H a xs) : SqT K H' a xs := by
  obtain ⟨x, y, z, e⟩ := hs
  rcases h with (h | ⟨o, h⟩) | h
  · refine .inl (.inl (k _ _ (fun q => ?_) h))
    rw [q, e] at h
    injection h with h
    cases h
  · refine .inl (.inr ⟨o, k _ _ (fun q => ?_) h⟩)
    rw [q, e] at h
    injection h with h
    cases h
  · exact .inr h
theorem _root_.L2.Same.tupS {K : PySem.W.Frag} {a : Addr} {H H' : Hp} {xs : List V} (k : Same H H') (h : SqT K H a xs) : SqT K H' a xs := by
  rcases h with (h | ⟨o, h⟩) | h
  · exact .inl (.inl (k _ _ h))
  · exact .inl (.inr ⟨o, k _ _ h⟩)
  · exact .inr h

/-! ### terms -/
/-- what a node has but the terms within it -/
inductive Hd where
  | var (n : Str) | int (k : Int) | bool (b : Bool) | fn (n : Str) | app | lt (n : Str) | rc (n : Str) | cond | tup | part (k size : Int) | record (ls : List Str) | field (n : Str) | wth (n : Str)
inductive T where
  | node (h : Hd) (ks : List T)
abbrev T.hd : T → Hd | .node h _ => h
abbrev T.kids : T → List T | .node _ ks => ks
/-- the first word of a node -/
def Hd.word : Hd → Str
  | .var _ => "var" | .int _ => "int" | .bool _ => "bool" | .fn _ => "fun" | .app => "app" | .lt _ => "let" | .rc _ => "rec" | .cond => "if" | .tup => "tuple" | .part _ _ => "part" | .record _ => "record" | .field _ => "field" | .wth _ => "with"
/-- the value v stands for a term in the heap H: its own tuple, and the terms within it -/
inductive Tm (K : PySem.W.Frag) (H : Hp) : V → T → Prop
  | var {a n} : SqT K H a [.str "var", .str n] → Tm K H (.ref a) (.node (.var n) [])
  | int {a k} : SqT K H a [.str "int", .int k] → Tm K H (.ref a) (.node (.int k) [])
  | bool {a b} : SqT K H a [.str "bool", .bl b] → Tm K H (.ref a) (.node (.bool b) [])
  | fn {a n v t} : SqT K H a [.str "fun", .str n, v] → Tm K H v t → Tm K H (.ref a) (.node (.fn n) [t])
  | app {a v t u r} : SqT K H a [.str "app", v, u] → Tm K H v t → Tm K H u r → Tm K H (.ref a) (.node .app [t, r])
  | lt {a n v t u r} : SqT K H a [.str "let", .str n, v, u] → Tm K H v t → Tm K H u r → Tm K H (.ref a) (.node (.lt n) [t, r])
  | rc {a n v t u r} : SqT K H a [.str "rec", .str n, v, u] → Tm K H v t → Tm K H u r → Tm K H (.ref a) (.node (.rc n) [t, r])
  | cond {a v t u r z q} : SqT K H a [.str "if", v, u, z] → Tm K H v t → Tm K H u r → Tm K H z q → Tm K H (.ref a) (.node .cond [t, r, q])
  | tup {a l : Addr} {xs : List V} {ts : List T} : SqT K H a [.str "tuple", .ref l] → SqL K H l xs → xs.length = ts.length → (∀ (i : Nat) (v : V) (t : T), xs[i]? = some v → ts[i]? = some t → Tm K H v t) → Tm K H (.ref a) (.node .tup ts)
  | part {a k z v t} : SqT K H a [.str "part", .int k, .int z, v] → Tm K H v t → Tm K H (.ref a) (.node (.part k z) [t])
  | record {a l : Addr} {bs : List Addr} {us : List V} {ls : List Str} {ts : List T} : SqT K H a [.str "record", .ref l] → SqL K H l (bs.map V.ref) → bs.length = ts.length → ls.length = ts.length → us.length = ts.length →
      (∀ (i : Nat) (b : Addr) (n : Str) (u : V), bs[i]? = some b → ls[i]? = some n → us[i]? = some u → SqT K H b [.str n, u]) → (∀ (i : Nat) (u : V) (t : T), us[i]? = some u → ts[i]? = some t → Tm K H u t) → Tm K H (.ref a) (.node (.record ls) ts)
  | field {a v t n} : SqT K H a [.str "field", v, .str n] → Tm K H v t → Tm K H (.ref a) (.node (.field n) [t])
  | wth {a v t n u r} : SqT K H a [.str "with", v, .str n, u] → Tm K H v t → Tm K H u r → Tm K H (.ref a) (.node (.wth n) [t, r])

/-- a pairing by place -/
def Al {α β : Type} (R : α → β → Prop) (xs : List α) (ys : List β) : Prop := xs.length = ys.length ∧ ∀ (i : Nat) (x : α) (y : β), xs[i]? = some x → ys[i]? = some y → R x y
theorem Al.nil {α β : Type} {R : α → β → Prop} : Al R [] [] := ⟨rfl, fun i x y h => by simp at h⟩
theorem Al.snoc {α β : Type} {R : α → β → Prop} {xs : List α} {ys : List β} {x : α} {y : β} (h : Al R xs ys) (r : R x y) : Al R (xs ++ [x]) (ys ++ [y]) := by
  obtain ⟨l, f⟩ := h
  refine ⟨by simp [l], fun i u v hu hv => ?_⟩
  by_cases q : i < xs.length
  · rw [List.getElem?_append_left q] at hu
    rw [List.getElem?_append_left (by omega)] at hv
    exact f i u v hu hv
  · rw [List.getElem?_append_right (by omega)] at hu
    rw [List.getElem?_append_right (by omega)] at hv
    have e : i - xs.length = 0 := by
      have := (List.getElem?_eq_some_iff.mp hu).1
      simp at this
      omega
    rw [e] at hu
    rw [show i - ys.length = 0 by omega] at hv
    simp at hu hv
    rw [← hu, ← hv]
    exact r
theorem Al.mono {α β : Type} {R R' : α → β → Prop} {xs : List α} {ys : List β} (h : Al R xs ys) (f : ∀ x y, y ∈ ys → R x y → R' x y) : Al R' xs ys :=
  ⟨h.1, fun i x y a b => f x y (List.mem_of_getElem? b) (h.2 i x y a b)⟩
theorem Tm.keep {K : PySem.W.Frag} {s : Addr} {H H' : Hp} (k : Keep s H H') (hs : Src H s) {v : V} {t : T} (h : Tm K H v t) : Tm K H' v t := by
  induction h with
  | var h => exact .var (k.tup hs h)
  | int h => exact .int (k.tup hs h)
  | bool h => exact .bool (k.tup hs h)
  | fn h _ i => exact .fn (k.tup hs h) i
  | app h _ _ i j => exact .app (k.tup hs h) i j
  | lt h _ _ i j => exact .lt (k.tup hs h) i j
  | rc h _ _ i j => exact .rc (k.tup hs h) i j
  | cond h _ _ _ i j l => exact .cond (k.tup hs h) i j l
  | @tup a l xs ts h h2 l1 f i =>
    refine .tup (k.tup hs h) (k.seq hs (No3.of_ref fun v hv j e => ?_) h2) l1 i
    obtain ⟨n, hn, q⟩ := List.getElem_of_mem hv
    have q1 : xs[n]? = some v := by rw [List.getElem?_eq_getElem hn, q]
    have q2 := f n v (ts[n]'(by omega)) q1 (List.getElem?_eq_getElem (by omega))
    rw [e] at q2
    cases q2
  | part h _ i => exact .part (k.tup hs h) i
  | record h h2 l1 l2 l3 f g i =>
    refine .record (k.tup hs h) (k.seq hs (No3.of_ref fun v hv j e => ?_) h2) l1 l2 l3 (fun j b n u a1 a2 a3 => k.tup hs (f j b n u a1 a2 a3)) i
    obtain ⟨b, _, q⟩ := List.mem_map.mp hv
    rw [e] at q
    cases q
  | field h _ i => exact .field (k.tup hs h) i
  | wth h _ _ i j => exact .wth (k.tup hs h) i j
theorem Tm.same {K : PySem.W.Frag} {H H' : Hp} (k : Same H H') {v : V} {t : T} (h : Tm K H v t) : Tm K H' v t := by
  induction h with
  | var h => exact .var (Same.tupS k h)
  | int h => exact .int (Same.tupS k h)
  | bool h => exact .bool (Same.tupS k h)
  | fn h _ i => exact .fn (Same.tupS k h) i
  | app h _ _ i j => exact .app (Same.tupS k h) i j
  | lt h _ _ i j => exact .lt (Same.tupS k h) i j
  | rc h _ _ i j => exact .rc (Same.tupS k h) i j
  | cond h _ _ _ i j l => exact .cond (Same.tupS k h) i j l
  | tup h h2 l1 f i => exact .tup (Same.tupS k h) (k.seq h2) l1 i
  | part h _ i => exact .part (Same.tupS k h) i
  | record h h2 l1 l2 l3 f g i => exact .record (Same.tupS k h) (k.seq h2) l1 l2 l3 (fun j b n u a1 a2 a3 => Same.tupS k (f j b n u a1 a2 a3)) i
  | field h _ i => exact .field (Same.tupS k h) i
  | wth h _ _ i j => exact .wth (Same.tupS k h) i j

/-! ### what a term is -/
def isName (n : Str) : Prop := 1 ≤ n.length ∧ n.length ≤ 8 ∧ ∀ c ∈ n.cps.toList, 97 ≤ c ∧ c ≤ 122
instance (n : Str) : Decidable (isName n) := by unfold isName; infer_instance
/-- the order of texts -/
def strLt (a b : Str) : Prop := a.cps.toList < b.cps.toList
def okHd : Hd → Nat → Prop
  | .var n, k => k = 0 ∧ isName n
  | .int i, k => k = 0 ∧ -(10 ^ 30) ≤ i ∧ i ≤ 10 ^ 30
  | .bool _, k => k = 0
  | .fn n, k => k = 1 ∧ isName n
  | .app, k => k = 2
  | .lt n, k => k = 2 ∧ isName n
  | .rc n, k => k = 2 ∧ isName n
  | .cond, k => k = 3
  | .tup, k => 2 ≤ k ∧ k ≤ 6
  | .part i z, k => k = 1 ∧ 0 ≤ i ∧ i < z ∧ 2 ≤ z ∧ z ≤ 6
  | .record ls, k => ls.length = k ∧ k ≤ 12 ∧ (∀ n ∈ ls, isName n) ∧ ls.Pairwise strLt
  | .field n, k => k = 1 ∧ isName n
  | .wth n, k => k = 2 ∧ isName n
/-- of a rec the first term within is a function -/
def okRec : Hd → List T → Prop
  | .rc _, .node (.fn _) _ :: _ => True
  | .rc _, _ => False
  | _, _ => True
mutual
def T.size : T → Nat
  | .node _ ks => 1 + T.sizes ks
def T.sizes : List T → Nat
  | [] => 0
  | t :: r => t.size + T.sizes r
end
mutual
def T.deep : T → Nat
  | .node _ ks => 1 + T.deeps ks
def T.deeps : List T → Nat
  | [] => 0
  | t :: r => max t.deep (T.deeps r)
end
/-- the words that are no names in texts -/
def noNames : List Str := ["fun", "let", "rec", "in", "if", "then", "else", "of", "with", "true", "false"]
/-- a name that is one in texts, too -/
def isNm (n : Str) : Prop := isName n ∧ n ∉ noNames
instance (n : Str) : Decidable (isNm n) := by unfold isNm; infer_instance
def okHdW : Hd → Nat → Prop
  | .var n, k => k = 0 ∧ isNm n
  | .int i, k => k = 0 ∧ -(10 ^ 30) ≤ i ∧ i ≤ 10 ^ 30
  | .bool _, k => k = 0
  | .fn n, k => k = 1 ∧ isNm n
  | .app, k => k = 2
  | .lt n, k => k = 2 ∧ isNm n
  | .rc n, k => k = 2 ∧ isNm n
  | .cond, k => k = 3
  | .tup, k => 2 ≤ k ∧ k ≤ 6
  | .part i z, k => k = 1 ∧ 0 ≤ i ∧ i < z ∧ 2 ≤ z ∧ z ≤ 6
  | .record ls, k => ls.length = k ∧ k ≤ 12 ∧ (∀ n ∈ ls, isNm n) ∧ ls.Pairwise strLt
  | .field n, k => k = 1 ∧ isNm n
  | .wth n, k => k = 2 ∧ isNm n
theorem okHdW.ok {h : Hd} {k : Nat} (a : okHdW h k) : okHd h k := by
  cases h with
  | var n => exact ⟨a.1, a.2.1⟩
  | fn n => exact ⟨a.1, a.2.1⟩
  | lt n => exact ⟨a.1, a.2.1⟩
  | rc n => exact ⟨a.1, a.2.1⟩
  | field n => exact ⟨a.1, a.2.1⟩
  | wth n => exact ⟨a.1, a.2.1⟩
  | record ls => exact ⟨a.1, a.2.1, fun n m => (a.2.2.1 n m).1, a.2.2.2⟩
  | int i => exact a
  | bool b => exact a
  | app => exact a
  | cond => exact a
  | tup => exact a
  | part i z => exact a
/-- a term as a law draws it: of a kind, at most three terms within each -/
inductive Wf : T → Prop
  | mk {h ks} : okHdW h ks.length → okRec h ks → ks.length ≤ 3 → (∀ t ∈ ks, Wf t) → Wf (.node h ks)
theorem Wf.hd {h : Hd} {ks : List T} (w : Wf (.node h ks)) : okHdW h ks.length := by cases w; assumption
theorem Wf.rc {h : Hd} {ks : List T} (w : Wf (.node h ks)) : okRec h ks := by cases w; assumption
theorem Wf.few {h : Hd} {ks : List T} (w : Wf (.node h ks)) : ks.length ≤ 3 := by cases w; assumption
theorem Wf.kid {h : Hd} {ks : List T} (w : Wf (.node h ks)) {t : T} (m : t ∈ ks) : Wf t := by
  cases w with
  | mk _ _ _ f => exact f t m
/-- a term as the document has it: any number of terms within a tuple, a record -/
inductive Wt : T → Prop
  | mk {h ks} : okHd h ks.length → okRec h ks → (∀ t ∈ ks, Wt t) → Wt (.node h ks)
theorem Wf.wt {t : T} (w : Wf t) : Wt t := by
  induction w with
  | mk a b _ _ ih => exact .mk a.ok b ih
theorem Wt.hd {h : Hd} {ks : List T} (w : Wt (.node h ks)) : okHd h ks.length := by cases w; assumption
theorem Wt.rc {h : Hd} {ks : List T} (w : Wt (.node h ks)) : okRec h ks := by cases w; assumption
theorem Wt.kid {h : Hd} {ks : List T} (w : Wt (.node h ks)) {t : T} (m : t ∈ ks) : Wt t := by
  cases w with
  | mk _ _ f => exact f t m
theorem okHd_few {h : Hd} {n : Nat} (a : okHd h n) : n ≤ 12 := by
  cases h <;> simp only [okHd] at a <;> omega
theorem Wt.few {h : Hd} {ks : List T} (w : Wt (.node h ks)) : ks.length ≤ 12 := okHd_few w.hd
theorem sizes_le {ks : List T} {n : Nat} (h : ∀ t ∈ ks, t.size ≤ n) : T.sizes ks ≤ ks.length * n := by
  induction ks with
  | nil => simp [T.sizes]
  | cons t r ih =>
    have h1 := h t List.mem_cons_self
    have h2 := ih fun u hu => h u (List.mem_cons_of_mem _ hu)
    simp only [T.sizes, List.length_cons, Nat.succ_mul]
    omega
theorem deeps_le {ks : List T} {n : Nat} (h : ∀ t ∈ ks, t.deep ≤ n) : T.deeps ks ≤ n := by
  induction ks with
  | nil => simp [T.deeps]
  | cons t r ih =>
    have h1 := h t List.mem_cons_self
    have h2 := ih fun u hu => h u (List.mem_cons_of_mem _ hu)
    simp only [T.deeps]
    omega
/-- how many nodes a drawn term may have -/
def szOf : Nat → Nat
  | 0 => 1
  | d + 1 => 3 * szOf d + 3
theorem szOf_pos : ∀ d, 1 ≤ szOf d
  | 0 => Nat.le_refl _
  | d + 1 => by have := szOf_pos d; simp only [szOf]; omega
/-- the names that mean something in term number i of a node, given those around -/
def ext : Hd → Nat → List Str → List Str
  | .fn m, _, ns => m :: ns
  | .rc m, _, ns => m :: ns
  | .lt m, i, ns => if i = 1 then m :: ns else ns
  | _, _, ns => ns
/-- every name that is used is among those around -/
inductive Sc : List Str → T → Prop
  | mk {ns : List Str} {h : Hd} {ks : List T} : (∀ n, h = .var n → n ∈ ns) → (∀ (i : Nat) (k : T), ks[i]? = some k → Sc (ext h i ns) k) → Sc ns (.node h ks)
theorem ext_mono {h : Hd} {i : Nat} {ns ms : List Str} (s : ∀ n ∈ ns, n ∈ ms) : ∀ n ∈ ext h i ns, n ∈ ext h i ms := by
  have c : ∀ m : Str, ∀ n ∈ m :: ns, n ∈ m :: ms := fun m n hn => by
    rcases List.mem_cons.mp hn with rfl | hn
    · exact List.mem_cons_self
    · exact List.mem_cons_of_mem _ (s n hn)
  cases h <;> first | exact s | exact c _ | (intro n hn; simp only [ext] at hn ⊢; split at hn; exact (by rw [if_pos (by assumption)]; exact c _ n hn); exact (by rw [if_neg (by assumption)]; exact s n hn))
theorem Sc.mono {ns ms : List Str} {t : T} (h : Sc ns t) : (∀ n ∈ ns, n ∈ ms) → Sc ms t := by
  induction h generalizing ms with
  | mk a b ih => exact fun s => .mk (fun n e => s n (a n e)) fun i k e => ih i k e (ext_mono s)
theorem sc0 {ns : List Str} {h : Hd} (hv : ∀ n, h ≠ .var n) : Sc ns (.node h []) := .mk (fun n e => absurd e (hv n)) (fun i k e => by simp at e)
theorem sc1 {ns : List Str} {h : Hd} {k : T} (hv : ∀ n, h ≠ .var n) (a : Sc (ext h 0 ns) k) : Sc ns (.node h [k]) := .mk (fun n e => absurd e (hv n)) (fun i r e => by
  match i, e with
  | 0, e => cases e; exact a
  | i + 1, e => simp at e)
theorem sc2 {ns : List Str} {h : Hd} {k l : T} (hv : ∀ n, h ≠ .var n) (a : Sc (ext h 0 ns) k) (b : Sc (ext h 1 ns) l) : Sc ns (.node h [k, l]) := .mk (fun n e => absurd e (hv n)) (fun i r e => by
  match i, e with
  | 0, e => cases e; exact a
  | 1, e => cases e; exact b
  | i + 2, e => simp at e)
theorem sc3 {ns : List Str} {h : Hd} {k l m : T} (hv : ∀ n, h ≠ .var n) (a : Sc (ext h 0 ns) k) (b : Sc (ext h 1 ns) l) (c : Sc (ext h 2 ns) m) : Sc ns (.node h [k, l, m]) := .mk (fun n e => absurd e (hv n)) (fun i r e => by
  match i, e with
  | 0, e => cases e; exact a
  | 1, e => cases e; exact b
  | 2, e => cases e; exact c
  | i + 3, e => simp at e)
theorem scL {ns : List Str} {h : Hd} {ks : List T} (hv : ∀ n, h ≠ .var n) (he : ∀ i, ext h i ns = ns) (a : ∀ t ∈ ks, Sc ns t) : Sc ns (.node h ks) := .mk (fun n e => absurd e (hv n)) (fun i r e => by rw [he i]; exact a r (List.mem_of_getElem? e))
/-- a term drawn with d levels, where some names mean something -/
def Drawn (d : Nat) (ns : List Str) (t : T) : Prop := Wf t ∧ t.size ≤ szOf d ∧ t.deep ≤ 2 * d + 1 ∧ Sc ns t

/-! ### a list that is being made: all else is told of the heap without it -/
def off (D : Addr) (H : Hp) : Hp := fun b => if b = D then none else H b
theorem off_at {D : Addr} {H : Hp} : off D H D = none := if_pos rfl
theorem off_ne {D b : Addr} {H : Hp} (h : b ≠ D) : off D H b = H b := if_neg h
theorem off_same {D : Addr} {H : Hp} : Same (off D H) H := fun b o h => by
  by_cases e : b = D
  · rw [e, off_at] at h
    cases h
  · rw [off_ne e] at h
    exact h
theorem _root_.L2.Same.wr {G H : Hp} {D : Addr} {o : HO} (h : Same G H) (hD : G D = none) : Same G (L2.upd H D o) := fun b u e => by
  rw [upd_ne (ne_of_none e hD)]
  exact h b u e
theorem _root_.L2.Same.ad {G H : Hp} {p : Addr} {o : HO} (h : Same G H) : Same (L2.upd G p o) (L2.upd H p o) := fun b u e => by
  by_cases q : b = p
  · rw [q, upd_same] at e ⊢
    exact e
  · rw [upd_ne q] at e ⊢
    exact h b u e
theorem _root_.L2.Same.fr {G H : Hp} {p : Addr} (h : Same G H) (hp : H p = none) : G p = none := h.free hp
theorem _root_.L2.Same.off {G H : Hp} {D : Addr} (h : Same G H) (hD : G D = none) : Same G (Vt.off D H) := fun b o e => by
  rw [off_ne (ne_of_none e hD)]
  exact h b o e
theorem Keep.off {s D : Addr} {G H H' : Hp} (h : Same G H) (k : Keep s H H') (hD : G D = none) : Keep s G (Vt.off D H') := fun b o n e => by
  rw [off_ne (ne_of_none e hD)]
  exact k b o n (h b o e)
theorem Src.off {s D : Addr} {H : Hp} (h : Src H s) (hn : s ≠ D) : Src (Vt.off D H) s := by
  obtain ⟨x, y, z, e⟩ := h
  exact ⟨x, y, z, by rw [off_ne hn]; exact e⟩
theorem Src.up {s : Addr} {G H : Hp} (h : Src G s) (e : Same G H) : Src H s := h.same e
theorem upd_none {H : Hp} {p D : Addr} {o : HO} (h : H D = none) (n : D ≠ p) : L2.upd H p o D = none := by rw [upd_ne n]; exact h
/-- one node without terms within it -/
theorem drawn0 {h : Hd} {ns : List Str} (a : okHdW h 0) (b : okRec h []) (c : Sc ns (.node h [])) : Drawn 0 ns (.node h []) := ⟨.mk a b (by decide) (fun t m => by cases m), by simp [T.size, T.sizes, szOf], by simp [T.deep, T.deeps], c⟩

/-! ### what is new behind a call -/
def nw (H H' : Hp) : Hp := fun b => if (H b).isSome then none else H' b
theorem nw_of {H H' : Hp} {b : Addr} (h : H b = none) : nw H H' b = H' b := by unfold nw; rw [h]; rfl
theorem nw_get {H H' : Hp} {b : Addr} {o : HO} (h : nw H H' b = some o) : H b = none ∧ H' b = some o := by
  unfold nw at h
  cases e : H b with
  | none => rw [e] at h; exact ⟨rfl, h⟩
  | some u => rw [e] at h; cases h
theorem nw_sub {H H' : Hp} : Same (nw H H') H' := fun b o h => (nw_get h).2
theorem nw_same {H A B : Hp} (h : Same A B) : Same (nw H A) (nw H B) := fun b o e => by
  obtain ⟨e1, e2⟩ := nw_get e
  rw [nw_of e1]
  exact h b o e2
theorem Src.some {H : Hp} {s b : Addr} (h : Src H s) (e : H b = none) : b ≠ s := h.ne e
theorem nw_keep {s : Addr} {H A B : Hp} (k : Keep s A B) (hs : Src H s) : Same (nw H A) (nw H B) := fun b o e => by
  obtain ⟨e1, e2⟩ := nw_get e
  rw [nw_of e1]
  exact k b o (hs.ne e1) e2
theorem Keep.none {s b : Addr} {H H1 : Hp} (k : Keep s H H1) (hs : Src H1 s) (h : H1 b = none) : H b = none := by
  cases e : H b with
  | none => rfl
  | some o =>
    have := k b o (hs.ne h) e
    rw [h] at this
    cases this
/-- new behind a later call is new behind all -/
theorem nw_in {s : Addr} {H H1 A : Hp} (k : Keep s H H1) (hs : Src H1 s) : Same (nw H1 A) (nw H A) := fun b o e => by
  obtain ⟨e1, e2⟩ := nw_get e
  rw [nw_of (k.none hs e1)]
  exact e2
theorem nw_off {X A : Hp} {D : Addr} {o : HO} (h : X D = some o) : Same (nw X A) (Vt.off D A) := fun b u e => by
  obtain ⟨e1, e2⟩ := nw_get e
  rw [off_ne (fun q => by rw [q, h] at e1; cases e1)]
  exact e2
theorem nw_at {H A : Hp} {p : Addr} {o : HO} (h : H p = none) : nw H (L2.upd A p o) p = some o := by rw [nw_of h, upd_same]
theorem Keep.list {s a : Addr} {H H' : Hp} {xs : List V} (k : Keep s H H') (hs : Src H s) (hx : No3 xs) (h : H a = some (.lst xs)) : H' a = some (.lst xs) := by
  obtain ⟨x, y, z, e⟩ := hs
  refine k _ _ (fun q => ?_) h
  rw [q, e] at h
  injection h with h
  injection h with h
  exact hx x y z h.symm
theorem tup_off {K : PySem.W.Frag} {X : Hp} {a D : Addr} {xs zs : List V} (h : SqT K X a xs) (hD : X D = some (.lst zs)) : SqT K (Vt.off D X) a xs := by
  rcases h with (h | ⟨o, h⟩) | h
  · exact .inl (.inl (by rw [off_ne (fun z => by rw [z, hD] at h; injection h with h; cases h)]; exact h))
  · exact .inl (.inr ⟨o, by rw [off_ne (fun z => by rw [z, hD] at h; injection h with h; cases h)]; exact h⟩)
  · exact .inr h
theorem catA_of {K : PySem.W.Frag} {H : Hp} {a b : Addr} {xs ys : List V} {Q : VK} (h1 : SqT K H a xs) (h2 : SqT K H b ys) (hz : xs.length + ys.length ≤ sizeLine) (h : ∀ (p : Addr) (H' : Hp), Same H H' → SqT K H' p (xs ++ ys) → Q (.ref p) H') : rCatA K (.ref a) (.ref b) H Q := by
  refine ⟨a, b, xs, ys, rfl, rfl, h1, h2, hz, fun e => ?_, fun _ e => ?_, fun _ _ p hp => ?_⟩
  · refine h b H (Same.refl _) ?_
    rw [e]
    exact h2
  · refine h a H (Same.refl _) ?_
    rw [e, List.append_nil]
    exact h1
  · exact h p _ (same_new hp _) (SqT.of upd_same)
end Vt


set_option Elab.async false
set_option linter.all false
set_option maxRecDepth 100000
set_option maxHeartbeats 4000000
/-! steps of a reading: names, constants, ints; then the facts of the context -/
local macro_rules | `(tactic| walk_at "ne") => `(tactic| first | assumption | exact Ne.symm (by assumption) | exact L2.ne_of_none (by assumption) (by assumption) | exact L2.ne_of_none L2.upd_same (by assumption) | exact Ne.symm (L2.ne_of_none L2.upd_same (by assumption)) | exact Ne.symm (L2.ne_of_none (by assumption) (by assumption)))
local macro_rules | `(tactic| walk_at "hp") => `(tactic| first | assumption | exact L2.upd_same | exact (L2.upd_ne (by walk_at "ne")).trans (by assumption) | exact (L2.upd_ne (by walk_at "ne")).trans L2.upd_same | exact (L2.upd_ne (by walk_at "ne")).trans ((L2.upd_ne (by walk_at "ne")).trans (by assumption)) | exact (L2.upd_ne (by walk_at "ne")).trans ((L2.upd_ne (by walk_at "ne")).trans L2.upd_same))
local macro_rules | `(tactic| walk_at "cn") => `(tactic| first | assumption | omega | rfl | (constructor <;> omega) | (refine .inl ?_; constructor <;> omega) | (refine .inr ?_; constructor <;> omega) | decide | (refine Vt.sz ?_; simp; done) | (refine Vt.sz ?_; simp; omega))
local macro_rules | `(tactic| walk_at "rd") => `(tactic| (repeat (first
  | refine ⟨_, rfl, ?_⟩
  | refine ⟨_, _, rfl, rfl, ?_⟩
  | refine .inl ⟨_, rfl, ?_⟩
  | (refine ⟨_, _, _, _, rfl, rfl, .inl (.inl (by walk_at "hp")), rfl, ?_⟩)
  | (refine ⟨_, _, _, _, rfl, rfl, (by walk_at "hp"), rfl, ?_⟩)
  | (refine And.intro (by walk_at "cn") ?_))))

namespace Vt
open PySem PySem.Spec PyProof.Rows L2
/-- a draw: an int from 0 to many - 1 -/
def spNext : Sp := fun vs H Q _ => ∃ (s : Addr) (m : Int), vs = [.ref s, .int m] ∧ Src H s ∧ 0 < m ∧ m < 1000000 ∧
  ∀ (i : Int) (H' : Hp), 0 ≤ i → i < m → Keep s H H' → Src H' s → Q (.int i) H'
/-- one of the items -/
def spOne (K : PySem.W.Frag) : Sp := fun vs H Q _ => ∃ (s l : Addr) (xs : List V), vs = [.ref s, .ref l] ∧ Src H s ∧ SqL K H l xs ∧ No3 xs ∧ xs ≠ [] ∧ xs.length < 1000 ∧
  ∀ (v : V) (H' : Hp), v ∈ xs → Keep s H H' → Src H' s → Q v H'
/-- a new source -/
def spSource : Sp := fun vs H Q _ => ∃ c : Int, vs = [.int c] ∧ ∀ (p : Addr) (H' : Hp), Same H H' → Src H' p → H p = none → Q (.ref p) H'
/-- an int of the script, or 0 -/
def spCell (K : PySem.W.Frag) : Sp := fun vs H Q _ => ∃ (a : Addr) (ns : List Int), vs = [.ref a, .int 0] ∧ SqL K H a (ns.map V.int) ∧ ns.length ≤ 900 ∧ ∀ (i : Int) (H' : Hp), Same H H' → Q (.int i) H'
theorem cut1 (ns : List Int) : ∃ i : Int, atI (cutV (ns.map V.int) (some 0) (some (0 + 1)) ++ [V.int 0]) 0 = some (.int i) := by
  have e0 : cutV (ns.map V.int) (some 0) (some (0 + 1)) = (ns.take 1).map V.int := by
    have h1 : HT.sIx (ns.map V.int).length 0 (some 0) = 0 := by
      show min 0 _ = 0
      omega
    unfold cutV
    rw [h1, List.drop_zero]
    cases ns with
    | nil => rfl
    | cons n r =>
      have h2 : HT.sIx ((n :: r).map V.int).length ((n :: r).map V.int).length (some (0 + 1)) = 1 := by
        show min 1 _ = 1
        rw [List.length_map, List.length_cons]
        omega
      rw [h2]
      rfl
  rw [e0]
  cases ns with
  | nil => exact ⟨0, rfl⟩
  | cons n r => exact ⟨n, atI_nat (j := 0) rfl⟩
abbrev s_law_next : Stmt := topS 70
abbrev N_law_next : List Str := ["source", "many", "found", "prime", "number"]
theorem sc_law_next : FnScope N_law_next ["source", "many"] (defScope s_law_next) := ⟨rfl, rfl, rfl, by decide +kernel, rfl, by decide +kernel, by decide +kernel⟩
abbrev s_law_one : Stmt := topS 71
abbrev N_law_one : List Str := ["source", "some"]
theorem sc_law_one : FnScope N_law_one ["source", "some"] (defScope s_law_one) := ⟨rfl, rfl, rfl, by decide +kernel, rfl, by decide +kernel, by decide +kernel⟩
abbrev s_law_source_of : Stmt := topS 69
abbrev N_law_source_of : List Str := ["cell"]
theorem sc_law_source_of : FnScope N_law_source_of ["cell"] (defScope s_law_source_of) := ⟨rfl, rfl, rfl, by decide +kernel, rfl, by decide +kernel, by decide +kernel⟩
abbrev s_law_cell_at : Stmt := topS 72
abbrev N_law_cell_at : List Str := ["script", "index"]
theorem sc_law_cell_at : FnScope N_law_cell_at ["script", "index"] (defScope s_law_cell_at) := ⟨rfl, rfl, rfl, by decide +kernel, rfl, by decide +kernel, by decide +kernel⟩
section
variable {P : Program} {w : World} {K : PySem.W.Frag} {mg : Str → Option Value} {base : Heap}
theorem ok_next (S : Stands K mg "_law_next" s_law_next ["source", "many"]) (Z : Blt mg) : DefOk P w K mg base CX0 1 "_law_next" ["source", "many"] spNext := by
  have z_int := Z.int
  obtain ⟨f, fd, F, hm, hb⟩ := S
  refine ⟨f, fd, ?_, hm, F.kp, hb⟩
  have nd := sc_law_next.nd
  refine F.ok sc_law_next (fun vs H Q E h => ?_) (fun cdv A outer s0 H vs Q E hr h => ?_)
  · obtain ⟨s, m, rfl, _⟩ := h
    rfl
  obtain ⟨s, m, rfl, ⟨x, y, z, hs⟩, h0, h1, q⟩ := h
  refine ⟨_, (pss_cons (ps_if (pt_cmpR op_gt (pe_ix ix_list (pv 0) pe_int (fun _ _ => rfl)) pe_int (nomark _)) (pss_cons (ps_set (i := 2) nd rfl (Or.inl rfl) (pe_op op_mod (pe_callTy call_int1 (by rfl) z_int (by decide +kernel) (pa_cons (pe_ix ix_list (pv 0) pe_int (fun _ _ => rfl)) pa_nil)) (pv 1)))
      (pss_cons (ps_asg (pe_op op_fdivN (pe_ix ix_list (pv 0) pe_int (fun _ _ => rfl)) (pv 1)) (pg_sub (pv 0) pe_int set_list))
      (pss_one (ps_ret (pv 2))))) pss_nil)
      (pss_cons (ps_asg (pe_op op_add (pe_ix ix_list (pv 0) pe_int (fun _ _ => rfl)) pe_int) (pg_sub (pv 0) pe_int set_list))
      (pss_cons (ps_set (i := 3) nd rfl (Or.inl rfl) pe_int)
      (pss_cons (ps_set (i := 4) nd rfl (Or.inl rfl) (pe_op op_mod (pe_callTy call_int1 (by rfl) z_int (by decide +kernel) (pa_cons (pe_op op_add (pe_op op_add (pe_ix ix_list (pv 0) pe_int (fun _ _ => rfl)) (pe_op op_mul pe_int (pe_ix ix_list (pv 0) pe_int (fun _ _ => rfl)))) pe_int) pa_nil)) (pv 3)))
      (pss_cons (ps_set (i := 4) nd rfl (Or.inl rfl) (pe_op op_mod (pe_callTy call_int1 (by rfl) z_int (by decide +kernel) (pa_cons (pe_op op_mul (pv 4) pe_int) pa_nil)) (pv 3)))
      (pss_cons (ps_set (i := 4) nd rfl (Or.inl rfl) (pe_op op_mod (pe_callTy call_int1 (by rfl) z_int (by decide +kernel) (pa_cons (pe_op op_mul (pv 4) (pe_op op_add (pe_op op_fdiv (pv 4) pe_int) pe_int)) pa_nil)) (pv 3)))
      (pss_cons (ps_set (i := 4) nd rfl (Or.inl rfl) (pe_op op_mod (pe_callTy call_int1 (by rfl) z_int (by decide +kernel) (pa_cons (pe_op op_mul (pv 4) (pe_op op_add (pe_op op_fdiv (pv 4) pe_int) pe_int)) pa_nil)) pe_int))
      (pss_one (ps_ret (pe_op op_mod (pe_callTy call_int1 (by rfl) z_int (by decide +kernel) (pa_cons (pe_op op_fdiv (pv 4) pe_int) pa_nil)) (pv 1))))))))))), ?_⟩
  walk_at "rd"
  refine ite2 (fun c => ?_) (fun c => ?_)
  · walk_at "rd"
    exact q _ _ (Int.emod_nonneg _ (by omega)) (Int.emod_lt_of_pos _ h0) Keep.wr ⟨_, _, _, upd_same⟩
  · walk_at "rd"
    exact q _ _ (Int.emod_nonneg _ (by omega)) (Int.emod_lt_of_pos _ h0) Keep.wr ⟨_, _, _, upd_same⟩
theorem ok_one (S : Stands K mg "_law_one" s_law_one ["source", "some"]) (Z : Blt mg) (H_law_next : DefOk P w K mg base CX0 1 "_law_next" ["source", "many"] spNext) : DefOk P w K mg base CX0 2 "_law_one" ["source", "some"] (spOne K) := by
  have z_len := Z.len
  obtain ⟨f, fd, F, hm, hb⟩ := S
  obtain ⟨f_law_next, fd_law_next, G_law_next, m_law_next, k_law_next, b_law_next⟩ := H_law_next
  refine ⟨f, fd, ?_, hm, F.kp, hb⟩
  have nd := sc_law_one.nd
  refine F.ok sc_law_one (fun vs H Q E h => ?_) (fun cdv A outer s0 H vs Q E hr h => ?_)
  · obtain ⟨s, l, xs, rfl, _⟩ := h
    rfl
  obtain ⟨s, l, xs, rfl, hs, hl, h3, hne, hlen, q⟩ := h
  refine ⟨_, (pss_one (ps_ret (pe_ix ix_list (pv 1) (pe_call G_law_next (hr.mono (by decide)) rfl m_law_next k_law_next b_law_next .nil pass0 (pa_cons (pv 0) (pa_cons (pe_callB call_len_seq (by rfl) z_len (by decide +kernel) (pa_cons (pv 1) pa_nil)) pa_nil))) (fun _ _ => rfl)))), ?_⟩
  have hpos : 0 < xs.length := List.length_pos_iff.mpr hne
  refine ⟨_, rfl, _, rfl, _, rfl, l, xs, rfl, .inl hl, s, _, rfl, hs, by omega, by omega, fun i H' h0 h1 kp hs' => ?_⟩
  obtain ⟨j, rfl⟩ := Int.eq_ofNat_of_zero_le h0
  have hj : j < xs.length := by omega
  exact ⟨l, xs, _, _, rfl, rfl, kp.seq hs h3 hl, atI_nat (List.getElem?_eq_getElem hj), q _ _ (List.getElem_mem hj) kp hs'⟩
theorem ok_source (S : Stands K mg "_law_source_of" s_law_source_of ["cell"]) (Z : Blt mg) : DefOk P w K mg base CX0 1 "_law_source_of" ["cell"] spSource := by
  have z_int := Z.int
  obtain ⟨f, fd, F, hm, hb⟩ := S
  refine ⟨f, fd, ?_, hm, F.kp, hb⟩
  have nd := sc_law_source_of.nd
  refine F.ok sc_law_source_of (fun vs H Q E h => ?_) (fun cdv A outer s0 H vs Q E hr h => ?_)
  · obtain ⟨c, rfl, _⟩ := h
    rfl
  obtain ⟨c, rfl, q⟩ := h
  refine ⟨_, (pss_cons (ps_set (i := 0) nd rfl (Or.inl rfl) (pe_ifExp (pt_cmpR op_ge (pv 0) pe_int (nomark _)) (pv 0) (pe_op op_sub (pe_op op_sub pe_int (pe_op op_mul pe_int (pv 0))) pe_int)))
      (pss_one (ps_ret (pe_lst (pa_cons (pe_op op_mul (pv 0) (pe_callTy call_int1 (by rfl) z_int (by decide +kernel) (pa_cons (pe_cmpR op_ge (pv 0) (pe_op op_pow pe_int pe_int) (nomark _)) pa_nil))) (pa_cons (pe_op op_mod (pe_callTy call_int1 (by rfl) z_int (by decide +kernel) (pa_cons (pv 0) pa_nil)) pe_int) (pa_cons pe_int pa_nil))))))), ?_⟩
  walk_at "rd"
  refine ite2 (fun c => ?_) (fun c => ?_)
  all_goals
    walk_at "rd"
    refine .inr ⟨_, rfl, _, _, rfl, rfl, .inr (by split <;> decide), ?_⟩
    walk_at "rd"
    intro p hp
    exact q p _ (same_new hp _) ⟨_, _, _, upd_same⟩ hp
theorem ok_cell (S : Stands K mg "_law_cell_at" s_law_cell_at ["script", "index"]) : DefOk P w K mg base CX0 1 "_law_cell_at" ["script", "index"] (spCell K) := by
  obtain ⟨f, fd, F, hm, hb⟩ := S
  refine ⟨f, fd, ?_, hm, F.kp, hb⟩
  have nd := sc_law_cell_at.nd
  refine F.ok sc_law_cell_at (fun vs H Q E h => ?_) (fun cdv A outer s0 H vs Q E hr h => ?_)
  · obtain ⟨a, ns, rfl, _⟩ := h
    rfl
  obtain ⟨a, ns, rfl, ha, hn, q⟩ := h
  refine ⟨_, (pss_one (ps_ret (pe_ix ix_list (pe_op op_cat (pe_slice sl_list (pv 0) (po_some (pv 1)) (po_some (pe_op op_add (pv 1) pe_int))) (pe_lst (pa_cons pe_int pa_nil))) pe_int (fun _ _ => rfl)))), ?_⟩
  walk_at "rd"
  refine ⟨a, _, rfl, ha, fun p hp => ⟨by show 1 ≤ sizeLine; decide, fun r hr' => ?_⟩⟩
  obtain ⟨i, e1⟩ := cut1 ns
  have z : (cutV (ns.map V.int) (some 0) (some (0 + 1))).length + 1 ≤ sizeLine := sz (by have := cutV_length (ns.map V.int) (some 0) (some (0 + 1)); rw [List.length_map] at this; omega)
  refine ⟨p, r, _, _, rfl, rfl, (upd_ne (ne_of_none upd_same hr')).trans upd_same, upd_same, z, fun t ht => ?_⟩
  refine ⟨t, _, _, _, rfl, rfl, SqL.of upd_same, e1, ?_⟩
  exact q i _ ((same_new hp _).trans ((same_new hr' _).trans (same_new ht _)))
end
end Vt


set_option Elab.async false
set_option linter.all false
set_option maxRecDepth 100000
set_option maxHeartbeats 4000000

namespace Vt
open PySem PySem.Spec PyProof.Rows L2
/-- a term without terms within it -/
def spLeaf (K : PySem.W.Frag) : Sp := fun vs H Q _ => ∃ (s l : Addr) (ns : List Str), vs = [.ref s, .ref l] ∧ Src H s ∧ SqL K H l (ns.map V.str) ∧ (∀ n ∈ ns, isNm n) ∧ ns.length ≤ 100 ∧
  ∀ (v : V) (H' : Hp) (t : T), Keep s H H' → Src H' s → Tm K (nw H H') v t → Drawn 0 ns t → Q v H'
theorem dpStrs {K : PySem.W.Frag} {H : Hp} : ∀ ns : List Str, DpAll K H (ns.map V.str) (ns.map PyData.str)
  | [] => .nil
  | n :: r => .cons (.str n) (dpStrs r)
theorem isName.ok {n : Str} (h : isName n) : PyData.strOk n = true := by
  unfold PyData.strOk
  rw [Array.all_eq_true']
  intro c hc
  have := h.2.2 c (Array.mem_toList_iff.mpr hc)
  exact decide_eq_true (by omega)
theorem strs_lay : ∀ ns : List Str, (∀ n ∈ ns, isName n) → PyData.canLayAll0 (ns.map PyData.str) = true
  | [], _ => by simp [PyData.canLayAll0]
  | n :: r, h => by
    simp only [List.map_cons, PyData.canLayAll0, PyData.canLay0, (h n List.mem_cons_self).ok, strs_lay r fun m hm => h m (List.mem_cons_of_mem _ hm), Bool.and_self]
theorem strs_depth : ∀ ns : List Str, PyData.depthAll (ns.map PyData.str) ≤ 2
  | [] => by simp [PyData.depthAll]
  | n :: r => by
    have := strs_depth r
    simp only [List.map_cons, PyData.depthAll, PyData.depth]
    omega
theorem strs_shaped (ns : List Str) (hn : ∀ n ∈ ns, isName n) : SeqAt.shaped (.list (ns.map PyData.str)) = true := by
  have h := strs_depth ns
  have h2 : PyData.depth (.list (ns.map PyData.str)) ≤ 64 := by
    simp only [PyData.depth]
    omega
  show (PyData.canLay0 (.list (ns.map PyData.str)) && decide (PyData.depth (.list (ns.map PyData.str)) ≤ 64)) = true
  rw [Bool.and_eq_true]
  exact ⟨by simp only [PyData.canLay0]; exact strs_lay ns hn, decide_eq_true h2⟩
theorem nil_shaped : SeqAt.shaped (.list []) = true := strs_shaped [] (fun n h => by cases h)
theorem get_map {α β : Type} {f : α → β} {xs : List α} {i : Nat} {y : β} (h : (xs.map f)[i]? = some y) : ∃ x, x ∈ xs ∧ xs[i]? = some x ∧ y = f x := by
  rw [List.getElem?_map] at h
  cases e : xs[i]? with
  | none => rw [e] at h; cases h
  | some x => rw [e] at h; exact ⟨x, List.mem_of_getElem? e, rfl, (Option.some.inj h).symm⟩
theorem mem_rep {xs : List V} {k : Nat} {v : V} (h : v ∈ (List.replicate k xs).flatten) : v ∈ xs := by
  obtain ⟨l, hl, hv⟩ := List.mem_flatten.mp h
  rw [(List.mem_replicate.mp hl).2] at hv
  exact hv
theorem mem_cut {xs : List V} {lo hi : Option Int} {v : V} (h : v ∈ cutV xs lo hi) : v ∈ xs := List.mem_of_mem_drop (List.mem_of_mem_take h)
abbrev s_law_leaf : Stmt := topS 73
abbrev N_law_leaf : List Str := ["source", "names", "some", "name"]
theorem sc_law_leaf : FnScope N_law_leaf ["source", "names"] (defScope s_law_leaf) := ⟨rfl, rfl, rfl, by decide +kernel, rfl, by decide +kernel, by decide +kernel⟩
section
variable {P : Program} {w : World} {K : PySem.W.Frag} {mg : Str → Option Value} {base : Heap}
theorem ok_leaf (S : Stands K mg "_law_leaf" s_law_leaf ["source", "names"]) (Z : Blt mg) (H_law_next : DefOk P w K mg base CX0 1 "_law_next" ["source", "many"] spNext) (H_law_one : DefOk P w K mg base CX0 2 "_law_one" ["source", "some"] (spOne K)) :
    DefOk P w K mg base CX0 3 "_law_leaf" ["source", "names"] (spLeaf K) := by
  have z_int := Z.int
  obtain ⟨f, fd, F, hm, hb⟩ := S
  obtain ⟨f_law_next, fd_law_next, G_law_next, m_law_next, k_law_next, b_law_next⟩ := H_law_next
  obtain ⟨f_law_one, fd_law_one, G_law_one, m_law_one, k_law_one, b_law_one⟩ := H_law_one
  refine ⟨f, fd, ?_, hm, F.kp, hb⟩
  have nd := sc_law_leaf.nd
  refine F.ok sc_law_leaf (fun vs H Q E h => ?_) (fun cdv A outer s0 H vs Q E hr h => ?_)
  · obtain ⟨s, l, ns, rfl, _⟩ := h
    rfl
  obtain ⟨s, l, ns, rfl, hs, hl, hn, hlen, q⟩ := h
  refine ⟨_, (pss_cons (ps_set (i := 2) nd rfl (Or.inl rfl) (pe_lst (pa_cons (pe_tup (pa_cons pe_str (pa_cons (pe_op op_sub (pe_call G_law_next (hr.mono (by decide)) rfl m_law_next k_law_next b_law_next .nil pass0 (pa_cons (pv 0) (pa_cons pe_int pa_nil))) pe_int) pa_nil))) (pa_cons (pe_tup (pa_cons pe_str (pa_cons (pe_cmpR op_eq (pe_call G_law_next (hr.mono (by decide)) rfl m_law_next k_law_next b_law_next .nil pass0 (pa_cons (pv 0) (pa_cons pe_int pa_nil))) pe_int (nomark _)) pa_nil))) (pa_cons (pe_tup (pa_cons pe_str (pa_cons (pe_lst pa_nil) pa_nil))) pa_nil)))))
      (pss_one (ps_ret (pe_call G_law_one (hr.mono (by decide)) rfl m_law_one k_law_one b_law_one .nil pass0 (pa_cons (pv 0) (pa_cons (pe_op op_cat (pe_op op_cat (pe_op op_rep (pe_slice sl_list (pv 2) po_none (po_some pe_int)) (pe_callTy call_int1 (by rfl) z_int (by decide +kernel) (pa_cons (pe_cmpR (op_eqD hr.units) (pv 1) (pe_lst pa_nil) (nomark _)) pa_nil))) (pe_op op_rep (pe_lc (own := [("name", 3)]) (g := gName 3) (tt := tYes) rfl nd (pi_list (pv 1)) (blkOk_by (N := N_law_leaf) (sc := defScope s_law_leaf) (by decide +kernel)) (fun _ _ _ _ _ => (pg_name (i := 3) nd rfl (Or.inl rfl))) (fun _ _ _ _ _ => pts_nil) (fun _ _ _ _ _ => (pe_tup (pa_cons pe_str (pa_cons (pv 3) pa_nil))))) pe_int)) (pv 2)) pa_nil)))))), ?_⟩
  walk_at "rd"
  refine ⟨s, _, rfl, hs, by omega, by omega, fun i1 H1 i10 i11 k1 hs1 => ?_⟩
  walk_at "rd"
  intro p1 hp1
  have S1 := same_new hp1 (.tup [V.str "int", V.int (i1 - 4)])
  walk_at "rd"
  refine ⟨s, _, rfl, hs1.same S1, by omega, by omega, fun i2 H2 i20 i21 k2 hs2 => ?_⟩
  walk_at "rd"
  intro p2 hp2
  have S2 := same_new hp2 (.tup [V.str "bool", V.bl (decide (V.int i2 = V.int 1))])
  walk_at "rd"
  intro p3 hp3
  have S3 := same_new hp3 (.lst [])
  walk_at "rd"
  intro p4 hp4
  have S4 := same_new hp4 (.tup [V.str "record", V.ref p3])
  walk_at "rd"
  intro p5 hp5
  have S5 := same_new hp5 (.lst [V.ref p1, V.ref p2, V.ref p4])
  walk_at "rd"
  have n1 := k1.none hs1 hp1
  have kA := k1.trans (Same.keep S1)
  have n2 := (kA.trans k2).none hs2 hp2
  have n3 := ((kA.trans k2).same S2).none (hs2.same S2) hp3
  have n4 := (((kA.trans k2).same S2).same S3).none ((hs2.same S2).same S3) hp4
  have T1 : Tm K (nw H _) (.ref p1) (.node (.int (i1 - 4)) []) := (((((Tm.int (SqT.of (nw_at n1)) : Tm K (nw H _) (.ref p1) (.node (.int (i1 - 4)) [])).same (nw_keep k2 hs)).same (nw_same S2)).same (nw_same S3)).same (nw_same S4)).same (nw_same S5)
  have T2 : Tm K (nw H _) (.ref p2) (.node (.bool (decide (V.int i2 = V.int 1))) []) := (((Tm.bool (SqT.of (nw_at n2)) : Tm K (nw H _) (.ref p2) (.node (.bool (decide (V.int i2 = V.int 1))) [])).same (nw_same S3)).same (nw_same S4)).same (nw_same S5)
  have T4 : Tm K (nw H _) (.ref p4) (.node (.record []) []) := (Tm.record (bs := []) (us := []) (SqT.of (nw_at n4)) (SqL.of (nw_same S4 _ _ (nw_at n3))) rfl rfl rfl (fun _ _ _ _ h => by simp at h) (fun _ _ _ h => by simp at h) : Tm K (nw H _) (.ref p4) (.node (.record []) [])).same (nw_same S5)
  have kE : Keep s H _ := ((k1.trans (Same.keep S1)).trans k2).same (((S2.trans S3).trans S4).trans S5)
  have hsE := (((hs2.same S2).same S3).same S4).same S5
  have hlE := kE.seq hs (no3_strs ns) hl
  have hall : ∀ v ∈ [V.ref p1, V.ref p2, V.ref p4], ∃ t, Tm K (nw H _) v t ∧ Drawn 0 ns t := fun v hv => by
    simp only [List.mem_cons, List.not_mem_nil, or_false] at hv
    rcases hv with rfl | rfl | rfl
    · exact ⟨_, T1, drawn0 ⟨rfl, by omega, by omega⟩ trivial (sc0 fun n => nofun)⟩
    · exact ⟨_, T2, drawn0 rfl trivial (sc0 fun n => nofun)⟩
    · exact ⟨_, T4, drawn0 ⟨rfl, by decide, fun n hn => by (cases hn), List.Pairwise.nil⟩ trivial (sc0 fun n => nofun)⟩
  have h5 := @upd_same (upd (upd (upd H2 p2 (.tup [V.str "bool", V.bl (decide (V.int i2 = V.int 1))])) p3 (.lst [])) p4 (.tup [V.str "record", V.ref p3])) p5 (.lst [V.ref p1, V.ref p2, V.ref p4])
  clear T1 T2 T4 hp1 hp2 hp3 hp4 hp5 hs1 hs2 k1 k2 n2 n3 n4 kA
  generalize upd (upd (upd (upd H2 p2 (.tup [V.str "bool", V.bl (decide (V.int i2 = V.int 1))])) p3 (.lst [])) p4 (.tup [V.str "record", V.ref p3])) p5 (.lst [V.ref p1, V.ref p2, V.ref p4]) = H5 at *
  refine ⟨p5, _, rfl, SqL.of h5, fun p6 hp6 => ?_⟩
  have S6 := same_new hp6 (.lst (cutV [V.ref p1, V.ref p2, V.ref p4] none (some 2)))
  walk_at "rd"
  intro p7 hp7
  have S7 := same_new hp7 (.lst [])
  have hl7 := S7.seq (S6.seq hlE)
  refine ⟨.list (ns.map .str), .list [], .lst hl7 (dpStrs ns), .lst (SqL.of upd_same) .nil, strs_shaped ns (fun n m => (hn n m).1), nil_shaped, ?_⟩
  refine .inr ⟨_, rfl, ?_⟩
  refine ⟨p6, _, _, rfl, rfl, S7 _ _ upd_same, by split <;> decide, by split <;> decide, sz (Nat.le_trans (Nat.mul_le_mul_right _ (cutV_length _ _ _)) (by split <;> simp)), fun p8 hp8 => ?_⟩
  have S8 := same_new hp8 (.lst (List.replicate (if PyData.eqv (.list (ns.map .str)) (.list []) = true then (1 : Int) else 0).toNat (cutV [V.ref p1, V.ref p2, V.ref p4] none (some 2))).flatten)
  have hl8 := S8.seq hl7
  have k8 := kE.same ((S6.trans S7).trans S8)
  have hs8 := ((hsE.same S6).same S7).same S8
  have h58 := S8 _ _ (S7 _ _ (S6 _ _ h5))
  have h88 := @upd_same (upd (upd H5 p6 (.lst (cutV [V.ref p1, V.ref p2, V.ref p4] none (some 2)))) p7 (.lst [])) p8 (.lst (List.replicate (if PyData.eqv (.list (ns.map .str)) (.list []) = true then (1 : Int) else 0).toNat (cutV [V.ref p1, V.ref p2, V.ref p4] none (some 2))).flatten)
  have hall8 : ∀ v ∈ [V.ref p1, V.ref p2, V.ref p4], ∃ t, Tm K (nw H _) v t ∧ Drawn 0 ns t := fun v hv => by
    obtain ⟨t, a, b⟩ := hall v hv
    exact ⟨t, ((a.same (nw_same S6)).same (nw_same S7)).same (nw_same S8), b⟩
  clear hall hl7 hlE kE hsE h5
  have hmem8 : ∀ v ∈ (List.replicate (if PyData.eqv (.list (ns.map .str)) (.list []) = true then (1 : Int) else 0).toNat (cutV [V.ref p1, V.ref p2, V.ref p4] none (some 2))).flatten, v ∈ [V.ref p1, V.ref p2, V.ref p4] := fun v hv => mem_cut (mem_rep hv)
  have hlen8 : (List.replicate (if PyData.eqv (.list (ns.map .str)) (.list []) = true then (1 : Int) else 0).toNat (cutV [V.ref p1, V.ref p2, V.ref p4] none (some 2))).flatten.length ≤ 3 := by
    split
    · show ([cutV [V.ref p1, V.ref p2, V.ref p4] none (some 2)].flatten).length ≤ 3
      rw [List.flatten_cons, List.flatten_nil, List.append_nil]
      exact cutV_length _ _ _
    · exact Nat.zero_le _
  generalize upd (upd (upd H5 p6 (.lst (cutV [V.ref p1, V.ref p2, V.ref p4] none (some 2)))) p7 (.lst [])) p8 (.lst (List.replicate (if PyData.eqv (.list (ns.map .str)) (.list []) = true then (1 : Int) else 0).toNat (cutV [V.ref p1, V.ref p2, V.ref p4] none (some 2))).flatten) = H8 at *
  generalize (List.replicate (if PyData.eqv (.list (ns.map .str)) (.list []) = true then (1 : Int) else 0).toNat (cutV [V.ref p1, V.ref p2, V.ref p4] none (some 2))).flatten = ys at *
  refine ⟨_, rfl, l, rfl, ⟨_, hl8⟩, fun D hD => ?_⟩
  refine lc_list (K := K) (a := l) (xs := ns.map V.str) (fun i X => ∃ (G : Hp) (acc : List V), Same G X ∧ G D = none ∧ Same H8 G ∧ X D = some (.lst acc) ∧ acc.length = i ∧ ∀ v ∈ acc, ∃ t, Tm K (nw H G) v t ∧ Drawn 0 ns t)
    ⟨H8, [], same_new hD _, hD, Same.refl _, upd_same, rfl, fun v hv => by cases hv⟩ (fun i X hi ⟨G, acc, g1, _, g2, _⟩ => (g2.trans g1).seq hl8) ?_ ?_
  · rintro i x X hx ⟨G, acc, g1, g2, g3, g4, g5, g6⟩
    obtain ⟨n, hn1, hn2, rfl⟩ := get_map hx
    walk_at "rd"
    walk_at "rd"
    intro p hp
    have gp := g1.fr hp
    have hi := (List.getElem?_eq_some_iff.mp hn2).1
    refine ⟨acc, (upd_ne (ne_of_none g4 hp)).trans g4, small1000 (by omega), upd G p (.tup [V.str "var", V.str n]), acc ++ [V.ref p], ?_, ?_, g3.trans (same_new gp _), upd_same, by simp [g5], ?_⟩
    · exact (g1.ad).wr (upd_none g2 (ne_of_none g4 hp))
    · exact upd_none g2 (ne_of_none g4 hp)
    · intro v hv
      rcases List.mem_append.mp hv with hv | hv
      · obtain ⟨t, a, b⟩ := g6 v hv
        exact ⟨t, a.same (nw_same (same_new gp _)), b⟩
      · rw [List.mem_singleton.mp hv]
        exact ⟨_, .var (SqT.of (nw_at (k8.none hs8 (g3.fr gp)))), drawn0 ⟨rfl, hn n hn1⟩ trivial (.mk (fun m e => by cases e; exact hn1) fun i k e => by simp at e)⟩
  · rintro X ⟨G, acc, g1, g2, g3, g4, g5, g6⟩
    rw [List.length_map] at g5
    have S9 := g3.trans g1
    refine ⟨D, _, acc, rfl, rfl, g4, by decide, by decide, sz (by show acc.length * 2 ≤ 1000; omega), fun p9 hp9 => ?_⟩
    have l9 : ((List.replicate (Int.toNat 2) acc).flatten).length = 2 * acc.length := by
      show (acc ++ (acc ++ [])).length = _
      simp
      omega
    have h9 := @upd_same X p9 (.lst (List.replicate (Int.toNat 2) acc).flatten)
    have m9 : ∀ v ∈ (List.replicate (Int.toNat 2) acc).flatten, v ∈ acc := fun v hv => mem_rep hv
    have T9 := same_new hp9 (.lst (List.replicate (Int.toNat 2) acc).flatten)
    generalize (List.replicate (Int.toNat 2) acc).flatten = zs at *
    refine ⟨p8, p9, ys, zs, rfl, rfl, T9 _ _ (S9 _ _ h88), h9, sz (by omega), fun p10 hp10 => ?_⟩
    have T10 := same_new hp10 (.lst (ys ++ zs))
    walk_at "rd"
    refine ⟨p10, p5, _, _, rfl, rfl, upd_same, T10 _ _ (T9 _ _ (S9 _ _ h58)), sz (by simp; omega), fun p11 hp11 => ?_⟩
    have T11 := same_new hp11 (.lst (ys ++ zs ++ [V.ref p1, V.ref p2, V.ref p4]))
    have Sall := (S9.trans (T9.trans T10)).trans T11
    have hit : ∀ v ∈ ys ++ zs ++ [V.ref p1, V.ref p2, V.ref p4], ∃ t, Tm K (nw H _) v t ∧ Drawn 0 ns t := fun v hv => by
      rcases List.mem_append.mp hv with hv | hv
      · rcases List.mem_append.mp hv with hv | hv
        · obtain ⟨t, a, b⟩ := hall8 v (hmem8 v hv)
          exact ⟨t, a.same (nw_same Sall), b⟩
        · obtain ⟨t, a, b⟩ := g6 v (m9 v hv)
          exact ⟨t, a.same (nw_same (((g1.trans T9).trans T10).trans T11)), b⟩
      · obtain ⟨t, a, b⟩ := hall8 v hv
        exact ⟨t, a.same (nw_same Sall), b⟩
    refine ⟨s, p11, _, rfl, hs8.same Sall, SqL.of upd_same, No3.of_ref fun v hv j e => ?_, by simp, by simp; omega, fun v H' hv kv hs' => ?_⟩
    · obtain ⟨t, a, _⟩ := hit v hv
      rw [e] at a
      cases a
    · obtain ⟨t, a, b⟩ := hit v hv
      exact q v H' t ((k8.same Sall).trans kv) hs' (a.same (nw_keep kv hs)) b
end
end Vt


set_option Elab.async false
set_option linter.all false
set_option maxRecDepth 100000
set_option maxHeartbeats 4000000

namespace Vt
open PySem PySem.Spec PyProof.Rows L2
/-- a text times an int -/
def rMulS : R2 := fun x y H Q => ∃ (z : Str) (i : Int), x = .str z ∧ y = .int i ∧ PySem.MulOk z i ∧ Q (.str (PySem.Txt.mul z i)) H
theorem op_mul_str {X : Cx} : OpR X (binaryOp .Mult) rMulS := by
  intro pins s σ H x y v u Q I rx ry h
  obtain ⟨z, i, rfl, rfl, ok, q⟩ := h
  obtain ⟨t, rfl⟩ := rx
  obtain ⟨t', rfl⟩ := ry
  exact PySem.SB.mul ok fun t'' k => ⟨.str _, H, I.tok _, ⟨_, rfl⟩, q⟩
/-- of letters from a to z -/
def low (x : Str) : Prop := ∀ c ∈ x.cps.toList, 97 ≤ c ∧ c ≤ 122
instance (x : Str) : Decidable (low x) := by unfold low; infer_instance
theorem low_add {x y : Str} (h : low x) (k : low y) : low (x ++ y) := fun c hc => by
  have e : (x ++ y).cps.toList = x.cps.toList ++ y.cps.toList := Array.toList_append
  rw [e] at hc
  rcases List.mem_append.mp hc with hc | hc
  · exact h c hc
  · exact k c hc
theorem len_add (x y : Str) : (x ++ y).length = x.length + y.length := Array.size_append
theorem low_sign {x : Str} (h : low x) {c : Nat} (hc : c ∈ x.cps.toList) : low ⟨#[c]⟩ := fun d hd => by
  have e : d = c := by simpa using hd
  rw [e]
  exact h c hc
theorem sign_at {x : Str} {n : Nat} (hx : x.length = n) {i : Int} (h0 : 0 ≤ i) (h1 : i < n) : ∃ c, atI x.cps.toList i = some c ∧ c ∈ x.cps.toList := by
  obtain ⟨j, rfl⟩ := Int.eq_ofNat_of_zero_le h0
  have hj : j < x.cps.toList.length := by
    rw [Array.length_toList]
    show j < x.length
    omega
  exact ⟨x.cps.toList[j], atI_nat (List.getElem?_eq_getElem hj), List.getElem_mem hj⟩
theorem q_times {i : Int} (h0 : 0 ≤ i) (h1 : i ≤ 3) : PySem.MulOk "q" i ∧ (PySem.Txt.mul "q" i).length ≤ 3 ∧ low (PySem.Txt.mul "q" i) := by
  rcases (by omega : i = 0 ∨ i = 1 ∨ i = 2 ∨ i = 3) with rfl | rfl | rfl | rfl
  · refine ⟨⟨by decide, fun h => absurd h (by decide), fun h => absurd h (by decide)⟩, by decide +kernel, by decide +kernel⟩
  · refine ⟨⟨by decide, fun _ h => by simp at h, fun _ h => by simp at h⟩, by decide +kernel, by decide +kernel⟩
  · refine ⟨⟨by decide, fun _ _ => by decide +kernel, fun _ _ => by decide +kernel⟩, by decide +kernel, by decide +kernel⟩
  · refine ⟨⟨by decide, fun _ _ => by decide +kernel, fun _ _ => by decide +kernel⟩, by decide +kernel, by decide +kernel⟩
theorem low_name {x : Str} (h : low x) (h1 : 1 ≤ x.length) (h8 : x.length ≤ 8) : isName x := ⟨h1, h8, h⟩
/-- the second sign is one of three that no word of texts has there -/
def sn (x : Str) : Prop := ∃ c, c ∈ ("xyz" : Str).cps.toList ∧ x.cps.toList[1]? = some c
theorem sn_not {x : Str} (h : sn x) : x ∉ noNames := fun m => by
  obtain ⟨c, hc, e⟩ := h
  have z : ∀ x ∈ noNames, ∀ c ∈ ("xyz" : Str).cps.toList, x.cps.toList[1]? ≠ some c := by decide +kernel
  exact z x m c hc e
theorem sn_add {x y : Str} (h : sn x) : sn (x ++ y) := by
  obtain ⟨c, hc, e⟩ := h
  refine ⟨c, hc, ?_⟩
  have e2 : (x ++ y).cps.toList = x.cps.toList ++ y.cps.toList := Array.toList_append
  rw [e2, List.getElem?_append_left (List.getElem?_eq_some_iff.mp e).1]
  exact e
theorem sn_own {c1 c2 : Nat} (h : c2 ∈ ("xyz" : Str).cps.toList) : sn ((⟨#[c1]⟩ : Str) ++ ⟨#[c2]⟩) := ⟨c2, h, rfl⟩
theorem grow {s D p : Addr} {G X X' : Hp} {o L : HO} {xs : List V} (g1 : Same G X) (g2 : G D = none) (hs : Src G s) (k : Keep s X X') (hs' : Src X' s) (hD : X' D = some (.lst xs)) (hp : X' p = none) :
    Same (upd (off D X') p o) (upd (upd X' p o) D L) ∧ (upd (off D X') p o) D = none ∧ Keep s G (upd (off D X') p o) ∧ Src (upd (off D X') p o) s := by
  have n1 : D ≠ p := ne_of_none hD hp
  have n2 : D ≠ s := hs.ne g2
  have o1 : off D X' p = none := off_same.fr hp
  refine ⟨(off_same.ad).wr (upd_none off_at n1), upd_none off_at n1, (Keep.off g1 k g2).trans (Keep.new o1), (hs'.off n2.symm).new o1⟩
theorem grow0 {s D : Addr} {G X X' : Hp} {L : HO} (g1 : Same G X) (g2 : G D = none) (hs : Src G s) (k : Keep s X X') (hs' : Src X' s) :
    Same (off D X') (upd X' D L) ∧ off D X' D = none ∧ Keep s G (off D X') ∧ Src (off D X') s :=
  ⟨off_same.wr off_at, off_at, Keep.off g1 k g2, hs'.off (hs.ne g2).symm⟩
/-- the labels of a drawn record -/
theorem labels {i : Int} (h0 : 0 ≤ i) (h1 : i < 3) : ∃ ls : List Str, cutV [V.str "u", V.str "v", V.str "w"] (some i) none = ls.map V.str ∧ 1 ≤ ls.length ∧ ls.length ≤ 3 ∧ (∀ n ∈ ls, isNm n) ∧ ls.Pairwise strLt := by
  rcases (by omega : i = 0 ∨ i = 1 ∨ i = 2) with rfl | rfl | rfl
  · exact ⟨["u", "v", "w"], rfl, by decide, by decide, by decide +kernel, by unfold strLt; decide +kernel⟩
  · exact ⟨["v", "w"], rfl, by decide, by decide, by decide +kernel, by unfold strLt; decide +kernel⟩
  · exact ⟨["w"], rfl, by decide, by decide, by decide +kernel, by unfold strLt; decide +kernel⟩
theorem node_size {h : Hd} {ks : List T} {n m : Nat} (hk : ks.length ≤ m) (hs : ∀ t ∈ ks, t.size ≤ n) : (T.node h ks).size ≤ 1 + m * n := by
  have h1 := sizes_le hs
  have h2 := Nat.mul_le_mul_right n hk
  simp only [T.size]
  omega
theorem node_deep {h : Hd} {ks : List T} {n : Nat} (hs : ∀ t ∈ ks, t.deep ≤ n) : (T.node h ks).deep ≤ 1 + n := by
  have h1 := deeps_le hs
  simp only [T.deep]
  omega
theorem Tm.ne_int {K : PySem.W.Frag} {H : Hp} {v : V} {t : T} (h : Tm K H v t) (i : Int) : v ≠ .int i := fun e => by
  rw [e] at h
  cases h
theorem labelW {ls : List Str} (h : ∀ n ∈ ls, isNm n) {v : V} (hv : v ∈ ls.map V.str ++ [V.str "w"]) : ∃ n, v = .str n ∧ isNm n := by
  rcases List.mem_append.mp hv with hv | hv
  · obtain ⟨n, hn, e⟩ := List.mem_map.mp hv
    exact ⟨n, e.symm, h n hn⟩
  · exact ⟨"w", List.mem_singleton.mp hv, by decide +kernel⟩
theorem no3_labelW {ls : List Str} (h : ∀ n ∈ ls, isNm n) : No3 (ls.map V.str ++ [V.str "w"]) := No3.of_ref fun v hv i e => by
  obtain ⟨n, q, _⟩ := labelW h hv
  rw [e] at q
  cases q
abbrev s_law_record : Stmt := topS 75
abbrev N_law_record : List Str := ["source", "names", "deep", "is_plain", "labels", "fields", "base", "name"]
theorem sc_law_record : FnScope N_law_record ["source", "names", "deep", "is_plain"] (defScope s_law_record) := ⟨rfl, rfl, rfl, by decide +kernel, rfl, by decide +kernel, by decide +kernel⟩
/-- a term drawn with so many levels, below n -/
def spTerm (K : PySem.W.Frag) (n : Nat) : Sp := fun vs H Q _ => ∃ (s l : Addr) (ns : List Str) (d : Nat), vs = [.ref s, .ref l, .int d] ∧ Src H s ∧ H l = some (.lst (ns.map V.str)) ∧ (∀ x ∈ ns, isNm x) ∧ d < n ∧ d ≤ 7 ∧ ns.length + 2 * d ≤ 20 ∧
  ∀ (v : V) (H' : Hp) (t : T), Keep s H H' → Src H' s → Tm K (nw H H') v t → Drawn d ns t → Q v H'
/-- a record, a field of one, or one with another field -/
def spRec (K : PySem.W.Frag) (n : Nat) : Sp := fun vs H Q _ => ∃ (s l : Addr) (ns : List Str) (d : Nat) (b : Bool), vs = [.ref s, .ref l, .int (d + 1 : Nat), .bl b] ∧ Src H s ∧ H l = some (.lst (ns.map V.str)) ∧ (∀ x ∈ ns, isNm x) ∧ d < n ∧ d ≤ 7 ∧ ns.length + 2 * d ≤ 20 ∧
  ∀ (v : V) (H' : Hp) (t : T), Keep s H H' → Src H' s → Tm K (nw H H') v t → Drawn (d + 1) ns t → Q v H'
section
variable {P : Program} {w : World} {K : PySem.W.Frag} {mg : Str → Option Value} {base : Heap}
theorem ok_record {n : Nat} (S : Stands K mg "_law_record" s_law_record ["source", "names", "deep", "is_plain"]) (Z : Blt mg) (H_law_next : DefOk P w K mg base CX0 1 "_law_next" ["source", "many"] spNext) (H_law_one : DefOk P w K mg base CX0 2 "_law_one" ["source", "some"] (spOne K))
    (H_law_leaf : DefOk P w K mg base CX0 3 "_law_leaf" ["source", "names"] (spLeaf K)) (H_law_term : DefOk P w K mg base CX0 (2 * n + 3) "_law_term" ["source", "names", "deep"] (spTerm K n)) :
    DefOk P w K mg base CX0 (2 * n + 4) "_law_record" ["source", "names", "deep", "is_plain"] (spRec K n) := by
  obtain ⟨f, fd, F, hm, hb⟩ := S
  obtain ⟨f_law_next, fd_law_next, G_law_next, m_law_next, k_law_next, b_law_next⟩ := H_law_next
  obtain ⟨f_law_one, fd_law_one, G_law_one, m_law_one, k_law_one, b_law_one⟩ := H_law_one
  obtain ⟨f_law_leaf, fd_law_leaf, G_law_leaf, m_law_leaf, k_law_leaf, b_law_leaf⟩ := H_law_leaf
  obtain ⟨f_law_term, fd_law_term, G_law_term, m_law_term, k_law_term, b_law_term⟩ := H_law_term
  refine ⟨f, fd, ?_, hm, F.kp, hb⟩
  have nd := sc_law_record.nd
  refine F.ok sc_law_record (fun vs H Q E h => ?_) (fun cdv A outer s0 H vs Q E hr h => ?_)
  · obtain ⟨s, l, ns, d, b, rfl, _⟩ := h
    rfl
  obtain ⟨s, l, ns, d, b, rfl, hs, hl, hn, hd, hd7, hlen, q⟩ := h
  refine ⟨_, (pss_cons (ps_set (i := 4) nd rfl (Or.inl rfl) (pe_slice sl_list (pe_lst (pa_cons pe_str (pa_cons pe_str (pa_cons pe_str pa_nil)))) (po_some (pe_call G_law_next (hr.mono (by omega)) rfl m_law_next k_law_next b_law_next .nil pass0 (pa_cons (pv 0) (pa_cons pe_int pa_nil)))) po_none))
      (pss_cons (ps_setLc (i := 5) (own := [("name", 7)]) (g := gName 7) (tt := tYes) rfl nd rfl rfl (sw_true rfl rfl rfl (by decide +kernel)) (pi_list (pv 4)) (blkOk_by (N := N_law_record) (sc := defScope s_law_record) (by decide +kernel)) (fun _ _ _ _ _ => (pg_name (i := 7) nd rfl (Or.inl rfl))) (fun _ _ _ _ _ => pts_nil) (fun _ _ _ _ _ => (pe_tup (pa_cons (pv 7) (pa_cons (pe_call G_law_term (hr.mono (by omega)) rfl m_law_term k_law_term b_law_term .nil pass0 (pa_cons (pv 0) (pa_cons (pv 1) (pa_cons (pe_op op_sub (pv 2) pe_int) pa_nil)))) pa_nil)))))
      (pss_cons (ps_if (pt_truth (pv 3) (by intro _; rfl)) (pss_one (ps_ret (pe_tup (pa_cons pe_str (pa_cons (pv 5) pa_nil))))) pss_nil)
      (pss_cons (ps_set (i := 6) nd rfl (Or.inl rfl) (pe_call G_law_one (hr.mono (by omega)) rfl m_law_one k_law_one b_law_one .nil pass0 (pa_cons (pv 0) (pa_cons (pe_lst (pa_cons (pe_tup (pa_cons pe_str (pa_cons (pv 5) pa_nil))) (pa_cons (pe_call G_law_leaf (hr.mono (by omega)) rfl m_law_leaf k_law_leaf b_law_leaf .nil pass0 (pa_cons (pv 0) (pa_cons (pv 1) pa_nil))) pa_nil))) pa_nil))))
      (pss_cons (ps_if (pt_cmpR op_eq (pe_call G_law_next (hr.mono (by omega)) rfl m_law_next k_law_next b_law_next .nil pass0 (pa_cons (pv 0) (pa_cons pe_int pa_nil))) pe_int (nomark _)) (pss_one (ps_ret (pe_tup (pa_cons pe_str (pa_cons (pv 6) (pa_cons (pe_call G_law_one (hr.mono (by omega)) rfl m_law_one k_law_one b_law_one .nil pass0 (pa_cons (pv 0) (pa_cons (pe_op op_cat (pv 4) (pe_lst (pa_cons pe_str pa_nil))) pa_nil))) pa_nil)))))) pss_nil)
      (pss_one (ps_ret (pe_tup (pa_cons pe_str (pa_cons (pv 6) (pa_cons (pe_call G_law_one (hr.mono (by omega)) rfl m_law_one k_law_one b_law_one .nil pass0 (pa_cons (pv 0) (pa_cons (pe_op op_cat (pv 4) (pe_lst (pa_cons pe_str pa_nil))) pa_nil))) (pa_cons (pe_call G_law_leaf (hr.mono (by omega)) rfl m_law_leaf k_law_leaf b_law_leaf .nil pass0 (pa_cons (pv 0) (pa_cons (pv 1) pa_nil))) pa_nil)))))))))))), ?_⟩
  walk_at "rd"
  intro p0 hp0
  have S0 := same_new hp0 (.lst [V.str "u", V.str "v", V.str "w"])
  walk_at "rd"
  refine ⟨s, _, rfl, hs.same S0, by omega, by omega, fun i0 H0 i00 i01 k0 hs0 => ?_⟩
  have h0 : H0 p0 = _ := k0.list (hs.same S0) (no3_strs ["u", "v", "w"]) upd_same
  have kA := (Same.keep S0).trans k0
  have hl0 := kA.list hs (no3_strs ns) hl
  walk_at "rd"
  refine ⟨p0, _, rfl, SqL.of h0, fun p1 hp1 => ?_⟩
  obtain ⟨ls, el, l1, l3, lok, lpw⟩ := labels i00 i01
  rw [show cutV (List.map V.str ["u", "v", "w"]) (some i0) none = ls.map V.str from el]
  have S1 := same_new hp1 (.lst (ls.map V.str))
  have kb := kA.same S1
  have hsb := hs0.same S1
  have hlb := S1 _ _ hl0
  have h1b := @upd_same H0 p1 (.lst (ls.map V.str))
  clear S1 S0 hp0 hp1 hs0 h0 kA hl0 k0
  generalize upd H0 p1 (.lst (ls.map V.str)) = Hb at *
  refine ⟨_, rfl, p1, rfl, ⟨_, SqL.of h1b⟩, fun D hD => ?_⟩
  have nD : H D = none := kb.none hsb hD
  refine lc_list (K := K) (a := p1) (xs := ls.map V.str) (fun i X => ∃ (G : Hp) (bs : List Addr) (us : List V) (ts : List T), Same G X ∧ G D = none ∧ Keep s Hb G ∧ Src G s ∧ X D = some (.lst (bs.map V.ref)) ∧ bs.length = i ∧ us.length = i ∧ ts.length = i ∧
      (∀ (j : Nat) (b : Addr) (n : Str) (u : V), bs[j]? = some b → ls[j]? = some n → us[j]? = some u → SqT K (nw H G) b [.str n, u]) ∧ (∀ (j : Nat) (u : V) (t : T), us[j]? = some u → ts[j]? = some t → Tm K (nw H G) u t) ∧ ∀ t ∈ ts, Drawn d ns t)
    ⟨Hb, [], [], [], same_new hD _, hD, Keep.refl _ _, hsb, upd_same, rfl, rfl, rfl, fun _ _ _ _ h => by simp at h, fun _ _ _ h => by simp at h, fun t h => by cases h⟩
    (fun i X hi ⟨G, bs, us, ts, g1, _, g3, _⟩ => SqL.of (g1 _ _ (g3.list hsb (no3_strs ls) h1b))) ?_ ?_
  · rintro i x X hx ⟨G, bs, us, ts, g1, g2, g3, g4, g5, e1, e2, e3, f1, f2, f3⟩
    obtain ⟨n, hn1, hn2, rfl⟩ := get_map hx
    have hi := (List.getElem?_eq_some_iff.mp hn2).1
    walk_at "rd"
    refine ⟨s, l, ns, d, congrArg (fun z => [V.ref s, V.ref l, V.int z]) (by omega), g4.same g1, g1 _ _ (g3.list hsb (no3_strs ns) hlb), hn, hd, hd7, hlen, fun v X' t kx hsx tm dr => ?_⟩
    walk_at "rd"
    intro p hp
    have hD' : X' D = some (.lst (bs.map V.ref)) := kx.list (g4.same g1) (No3.of_ref fun v hv j e => by obtain ⟨b, _, q⟩ := List.mem_map.mp hv; rw [e] at q; cases q) g5
    obtain ⟨a1, a2, a3, a4⟩ := grow (o := .tup [V.str n, v]) (L := .lst (bs.map V.ref ++ [V.ref p])) g1 g2 g4 kx hsx hD' hp
    have kH : Keep s H X' := ((kb.trans g3).same g1).trans kx
    have np : H p = none := kH.none hsx hp
    have b1 : Same (nw H G) (nw H (upd (off D X') p (.tup [V.str n, v]))) := nw_keep a3 hs
    refine ⟨bs.map V.ref, (upd_ne (ne_of_none hD' hp)).trans hD', by rw [List.length_map]; exact small1000 (by omega), upd (off D X') p (.tup [V.str n, v]), bs ++ [p], us ++ [v], ts ++ [t], a1, a2, g3.trans a3, a4, by rw [upd_same, List.map_append]; rfl, by simp [e1], by simp [e2], by simp [e3], ?_, ?_, ?_⟩
    · intro j b m u h1 h2 h3
      by_cases q : j < i
      · rw [List.getElem?_append_left (by omega)] at h1 h3
        exact b1.tupS (f1 j b m u h1 h2 h3)
      · have hj : j = i := by
          have := (List.getElem?_eq_some_iff.mp h1).1
          simp at this
          omega
        subst hj
        rw [List.getElem?_append_right (by omega)] at h1 h3
        simp [e1, e2] at h1 h3
        rw [hn2] at h2
        cases h2
        rw [← h1, ← h3]
        exact SqT.of (nw_at np)
    · intro j u t' h1 h2
      by_cases q : j < i
      · rw [List.getElem?_append_left (by omega)] at h1 h2
        exact (f2 j u t' h1 h2).same b1
      · have hj : j = i := by
          have := (List.getElem?_eq_some_iff.mp h1).1
          simp at this
          omega
        subst hj
        rw [List.getElem?_append_right (by omega)] at h1 h2
        simp [e2, e3] at h1 h2
        rw [← h1, ← h2]
        refine tm.same (fun c o hc => ?_)
        obtain ⟨c1, c2⟩ := nw_get hc
        have c3 : H c = none := ((kb.trans g3).same g1).none (g4.same g1) c1
        rw [nw_of c3, upd_ne (ne_of_none c2 hp), off_ne (fun z => by rw [z, g5] at c1; cases c1)]
        exact c2
    · intro t' ht
      rcases List.mem_append.mp ht with ht | ht
      · exact f3 t' ht
      · rw [List.mem_singleton.mp ht]
        exact dr
  · rintro X ⟨G, bs, us, ts, g1, g2, g3, g4, g5, e1, e2, e3, f1, f2, f3⟩
    rw [List.length_map] at e1 e2 e3
    have kX : Keep s H X := (kb.trans g3).same g1
    have hsX := g4.same g1
    have hlX := g1 _ _ (g3.list hsb (no3_strs ns) hlb)
    have h1X := g1 _ _ (g3.list hsb (no3_strs ls) h1b)
    have tR : ∀ p2, X p2 = none → Tm K (nw H (upd X p2 (.tup [V.str "record", V.ref D]))) (.ref p2) (.node (.record ls) ts) := fun p2 hp2 => by
      have c := nw_same (H := H) (same_new hp2 (.tup [V.str "record", V.ref D]))
      exact .record (SqT.of (nw_at (kX.none hsX hp2))) (SqL.of (c _ _ ((nw_of nD).trans g5))) (by omega) (by omega) (by omega) (fun j b n u a1 a2 a3 => c.tupS ((nw_same g1).tupS (f1 j b n u a1 a2 a3))) (fun j u t a1 a2 => ((f2 j u t a1 a2).same (nw_same g1)).same c)
    have wR : Wf (.node (.record ls) ts) := .mk ⟨by omega, by omega, lok, lpw⟩ trivial (by omega) fun t ht => (f3 t ht).1
    have zR : (T.node (.record ls) ts).size ≤ 1 + 3 * szOf d := node_size (by omega) fun t ht => (f3 t ht).2.1
    have dR : (T.node (.record ls) ts).deep ≤ 1 + (2 * d + 1) := node_deep fun t ht => (f3 t ht).2.2.1
    have cR : Sc ns (.node (.record ls) ts) := scL (fun n => nofun) (fun i => rfl) fun t ht => (f3 t ht).2.2.2
    clear f1 f2 f3 hsb hlb h1b hD kb g1 g2 g3 g4 G
    cases b with
    | true =>
      walk_at "rd"
      intro p2 hp2
      exact q _ _ _ (kX.trans (Keep.new hp2)) (hsX.new hp2) (tR p2 hp2) ⟨wR, by simp only [szOf]; omega, by omega, cR⟩
    | false =>
      walk_at "rd"
      intro p2 hp2
      have S2 := same_new hp2 (.tup [V.str "record", V.ref D])
      have t2 := tR p2 hp2
      have k2 := kX.same S2
      have hs2 := hsX.same S2
      have hl2 := S2 _ _ hlX
      have h12 := S2 _ _ h1X
      clear tR kX hsX hlX h1X g5
      generalize upd X p2 (.tup [V.str "record", V.ref D]) = X2 at *
      walk_at "rd"
      refine ⟨s, l, ns, rfl, hs2, SqL.of hl2, hn, by omega, fun v3 X3 t3 k3 hs3 m3 r3 => ?_⟩
      walk_at "rd"
      intro p4 hp4
      have S4 := same_new hp4 (.lst [V.ref p2, v3])
      have k4 := (k2.trans k3).same S4
      have hs4 := hs3.same S4
      have hb4 : ∀ v ∈ [V.ref p2, v3], ∃ t, Tm K (nw H _) v t ∧ Wf t ∧ t.size ≤ 1 + 3 * szOf d ∧ t.deep ≤ 1 + (2 * d + 1) ∧ Sc ns t := fun v hv => by
        simp only [List.mem_cons, List.not_mem_nil, or_false] at hv
        rcases hv with rfl | rfl
        · exact ⟨_, (t2.same (nw_keep k3 hs)).same (nw_same S4), wR, zR, dR, cR⟩
        · obtain ⟨r1, r2, r3, r4⟩ := r3
          simp only [szOf] at r2
          exact ⟨_, (m3.same (nw_in k2 hs2)).same (nw_same S4), r1, by omega, by omega, r4⟩
      have hl4 := S4 _ _ (k3.list hs2 (no3_strs ns) hl2)
      have h14 := S4 _ _ (k3.list hs2 (no3_strs ls) h12)
      refine ⟨s, p4, _, rfl, hs4, SqL.of upd_same, No3.of_ref fun v hv j e => ?_, by simp, by simp, fun vb X5 hvb k5 hs5 => ?_⟩
      · obtain ⟨t, m, _⟩ := hb4 v hv
        exact m.ne_int j e
      obtain ⟨tb, mb, wb, zb, db, cb⟩ := hb4 vb hvb
      have mb5 := mb.same (nw_keep k5 hs)
      have kH5 := k4.trans k5
      have hl5 := k5.list hs4 (no3_strs ns) hl4
      have h15 := k5.list hs4 (no3_strs ls) h14
      clear hb4 t2 m3 mb k2 k3 k4 hs2 hs3 hs4 hl4 h14 hl2 h12 wR zR dR cR S2 S4 hp4 k5
      walk_at "rd"
      refine ⟨s, _, rfl, hs5, by omega, by omega, fun i6 X6 i60 i61 k6 hs6 => ?_⟩
      have mb6 := mb5.same (nw_keep k6 hs)
      have kH6 := kH5.trans k6
      have hl6 := k6.list hs5 (no3_strs ns) hl5
      have h16 := k6.list hs5 (no3_strs ls) h15
      clear mb5 kH5 hl5 h15
      walk_at "rd"
      refine ite2 (fun c => ?_) (fun c => ?_)
      · walk_at "rd"
        intro p7 hp7
        have S7 := same_new hp7 (.lst [V.str "w"])
        refine ⟨p1, p7, _, _, rfl, rfl, S7 _ _ h16, upd_same, sz (by simp; omega), fun p8 hp8 => ?_⟩
        have S8 := same_new hp8 (.lst (ls.map V.str ++ [V.str "w"]))
        have S78 := S7.trans S8
        refine ⟨s, p8, _, rfl, hs6.same S78, SqL.of upd_same, no3_labelW lok, by simp, by simp; omega, fun v9 X9 hv9 k9 hs9 => ?_⟩
        obtain ⟨n9, rfl, ok9⟩ := labelW lok hv9
        walk_at "rd"
        intro p10 hp10
        have S10 := same_new hp10 (.tup [V.str "field", vb, V.str n9])
        have kE := (kH6.same S78).trans k9
        exact q _ _ (.node (.field n9) [tb]) (kE.same S10) (hs9.same S10) (.field (SqT.of (nw_at (kE.none hs9 hp10))) (((mb6.same (nw_same S78)).same (nw_keep k9 hs)).same (nw_same S10)))
          ⟨.mk ⟨rfl, ok9⟩ trivial (by simp) (fun t ht => by rw [List.mem_singleton.mp ht]; exact wb), by simp only [T.size, T.sizes, szOf]; omega, by simp only [T.deep, T.deeps]; omega, sc1 (fun n => nofun) cb⟩
      · walk_at "rd"
        intro p7 hp7
        have S7 := same_new hp7 (.lst [V.str "w"])
        refine ⟨p1, p7, _, _, rfl, rfl, S7 _ _ h16, upd_same, sz (by simp; omega), fun p8 hp8 => ?_⟩
        have S8 := same_new hp8 (.lst (ls.map V.str ++ [V.str "w"]))
        have S78 := S7.trans S8
        refine ⟨s, p8, _, rfl, hs6.same S78, SqL.of upd_same, no3_labelW lok, by simp, by simp; omega, fun v9 X9 hv9 k9 hs9 => ?_⟩
        obtain ⟨n9, rfl, ok9⟩ := labelW lok hv9
        have kH9 := (kH6.same S78).trans k9
        walk_at "rd"
        refine ⟨s, l, ns, rfl, hs9, SqL.of (k9.list (hs6.same S78) (no3_strs ns) (S78 _ _ hl6)), hn, by omega, fun va Xa ta ka hsa ma ra => ?_⟩
        walk_at "rd"
        intro p10 hp10
        have S10 := same_new hp10 (.tup [V.str "with", vb, V.str n9, va])
        have kE := kH9.trans ka
        obtain ⟨r1, r2, r3, r4⟩ := ra
        simp only [szOf] at r2
        have pd := szOf_pos d
        exact q _ _ (.node (.wth n9) [tb, ta]) (kE.same S10) (hsa.same S10) (.wth (SqT.of (nw_at (kE.none hsa hp10))) ((((mb6.same (nw_same S78)).same (nw_keep k9 hs)).same (nw_keep ka hs)).same (nw_same S10)) ((ma.same (nw_in kH9 hs9)).same (nw_same S10)))
          ⟨.mk ⟨rfl, ok9⟩ trivial (by simp) (fun t ht => by simp at ht; rcases ht with rfl | rfl <;> assumption), by simp only [T.size, T.sizes, szOf]; omega, by simp only [T.deep, T.deeps]; omega, sc2 (fun n => nofun) cb r4⟩
end
end Vt


set_option Elab.async false
set_option linter.all false
set_option maxRecDepth 100000
set_option maxHeartbeats 4000000

namespace Vt
open PySem PySem.Spec PyProof.Rows L2
theorem subs1 {ns : List Str} (own : Str) : ∀ n ∈ ns ++ [own], n ∈ own :: ns := fun n h => by simp at h ⊢; rcases h with h | h <;> simp [h]
theorem subs2 {ns : List Str} (own : Str) : ∀ n ∈ ns ++ [own, own], n ∈ own :: ns := fun n h => by simp at h ⊢; rcases h with h | h <;> simp [h]
theorem subs3 {ns : List Str} (own r : Str) : ∀ n ∈ ns ++ [own, r], n ∈ r :: own :: ns := fun n h => by simp at h ⊢; rcases h with h | h | h <;> simp [h]
abbrev s_law_term : Stmt := topS 74
abbrev N_law_term : List Str := ["source", "names", "deep", "way", "own", "first", "second", "k"]
theorem sc_law_term : FnScope N_law_term ["source", "names", "deep"] (defScope s_law_term) := ⟨rfl, rfl, rfl, by decide +kernel, rfl, by decide +kernel, by decide +kernel⟩
section
variable {P : Program} {w : World} {K : PySem.W.Frag} {mg : Str → Option Value} {base : Heap}
theorem ok_term {n : Nat} (S : Stands K mg "_law_term" s_law_term ["source", "names", "deep"]) (Z : Blt mg) (H_law_next : DefOk P w K mg base CX0 1 "_law_next" ["source", "many"] spNext) (H_law_one : DefOk P w K mg base CX0 2 "_law_one" ["source", "some"] (spOne K))
    (H_law_leaf : DefOk P w K mg base CX0 3 "_law_leaf" ["source", "names"] (spLeaf K)) (H_law_term : DefOk P w K mg base CX0 (2 * n + 3) "_law_term" ["source", "names", "deep"] (spTerm K n))
    (H_law_record : DefOk P w K mg base CX0 (2 * n + 4) "_law_record" ["source", "names", "deep", "is_plain"] (spRec K n)) :
    DefOk P w K mg base CX0 (2 * n + 5) "_law_term" ["source", "names", "deep"] (spTerm K (n + 1)) := by
  have z_int := Z.int
  have z_len := Z.len
  have z_range := Z.range
  obtain ⟨f, fd, F, hm, hb⟩ := S
  obtain ⟨f_law_next, fd_law_next, G_law_next, m_law_next, k_law_next, b_law_next⟩ := H_law_next
  obtain ⟨f_law_one, fd_law_one, G_law_one, m_law_one, k_law_one, b_law_one⟩ := H_law_one
  obtain ⟨f_law_leaf, fd_law_leaf, G_law_leaf, m_law_leaf, k_law_leaf, b_law_leaf⟩ := H_law_leaf
  obtain ⟨f_law_term, fd_law_term, G_law_term, m_law_term, k_law_term, b_law_term⟩ := H_law_term
  obtain ⟨f_law_record, fd_law_record, G_law_record, m_law_record, k_law_record, b_law_record⟩ := H_law_record
  refine ⟨f, fd, ?_, hm, F.kp, hb⟩
  have nd := sc_law_term.nd
  refine F.ok sc_law_term (fun vs H Q E h => ?_) (fun cdv A outer s0 H vs Q E hr h => ?_)
  · obtain ⟨s, l, ns, d, rfl, _⟩ := h
    rfl
  obtain ⟨s, l, ns, d, rfl, hs, hl, hn, hd, hd7, hlen, q⟩ := h
  refine ⟨_, (pss_cons (ps_set (i := 3) nd rfl (Or.inl rfl) (pe_call G_law_next (hr.mono (by omega)) rfl m_law_next k_law_next b_law_next .nil pass0 (pa_cons (pv 0) (pa_cons pe_int pa_nil))))
      (pss_cons (ps_if (PW.pt (pw_or (pt_cmpR op_eq (pv 2) pe_int (nomark _)) (pw_or1 (pt_cmpR op_eq (pv 3) pe_int (nomark _))))) (pss_one (ps_ret (pe_call G_law_leaf (hr.mono (by omega)) rfl m_law_leaf k_law_leaf b_law_leaf .nil pass0 (pa_cons (pv 0) (pa_cons (pv 1) pa_nil))))) pss_nil)
      (pss_cons (ps_set (i := 4) nd rfl (Or.inl rfl) (pe_op op_add_str (pe_op op_add_str (pe_op op_add_str (pe_ix ix_str pe_str (pv 2) (fun _ _ => rfl)) (pe_ix ix_str pe_str (pe_call G_law_next (hr.mono (by omega)) rfl m_law_next k_law_next b_law_next .nil pass0 (pa_cons (pv 0) (pa_cons pe_int pa_nil))) (fun _ _ => rfl))) (pe_ix ix_str pe_str (pe_op op_mod (pe_callTy call_int1 (by rfl) z_int (by decide +kernel) (pa_cons (pe_callB call_len_seq (by rfl) z_len (by decide +kernel) (pa_cons (pv 1) pa_nil)) pa_nil)) pe_int) (fun _ _ => rfl))) (pe_op op_mul_str pe_str (pe_op op_fdiv (pe_callB call_len_seq (by rfl) z_len (by decide +kernel) (pa_cons (pv 1) pa_nil)) pe_int))))
      (pss_cons (ps_if (pt_cmpR op_in_seq (pv 3) (pe_tup (pa_cons pe_int (pa_cons pe_int pa_nil))) (by rfl)) (pss_one (ps_ret (pe_tup (pa_cons pe_str (pa_cons (pv 4) (pa_cons (pe_call G_law_term (hr.mono (by omega)) rfl m_law_term k_law_term b_law_term .nil pass0 (pa_cons (pv 0) (pa_cons (pe_op op_cat (pv 1) (pe_lst (pa_cons (pv 4) pa_nil))) (pa_cons (pe_op op_sub (pv 2) pe_int) pa_nil)))) pa_nil)))))) pss_nil)
      (pss_cons (ps_if (pt_cmpR op_in_seq (pv 3) (pe_tup (pa_cons pe_int (pa_cons pe_int pa_nil))) (by rfl)) (pss_cons (ps_set (i := 5) nd rfl (Or.inl rfl) (pe_call G_law_term (hr.mono (by omega)) rfl m_law_term k_law_term b_law_term .nil pass0 (pa_cons (pv 0) (pa_cons (pv 1) (pa_cons (pe_op op_sub (pv 2) pe_int) pa_nil)))))
      (pss_one (ps_ret (pe_tup (pa_cons pe_str (pa_cons (pv 5) (pa_cons (pe_call G_law_term (hr.mono (by omega)) rfl m_law_term k_law_term b_law_term .nil pass0 (pa_cons (pv 0) (pa_cons (pv 1) (pa_cons (pe_op op_sub (pv 2) pe_int) pa_nil)))) pa_nil))))))) pss_nil)
      (pss_cons (ps_if (pt_cmpR op_in_seq (pv 3) (pe_tup (pa_cons pe_int (pa_cons pe_int pa_nil))) (by rfl)) (pss_cons (ps_set (i := 5) nd rfl (Or.inl rfl) (pe_call G_law_term (hr.mono (by omega)) rfl m_law_term k_law_term b_law_term .nil pass0 (pa_cons (pv 0) (pa_cons (pv 1) (pa_cons (pe_op op_sub (pv 2) pe_int) pa_nil)))))
      (pss_one (ps_ret (pe_tup (pa_cons pe_str (pa_cons (pv 4) (pa_cons (pv 5) (pa_cons (pe_call G_law_term (hr.mono (by omega)) rfl m_law_term k_law_term b_law_term .nil pass0 (pa_cons (pv 0) (pa_cons (pe_op op_cat (pv 1) (pe_lst (pa_cons (pv 4) (pa_cons (pv 4) pa_nil)))) (pa_cons (pe_op op_sub (pv 2) pe_int) pa_nil)))) pa_nil)))))))) pss_nil)
      (pss_cons (ps_if (pt_cmpR op_eq (pv 3) pe_int (nomark _)) (pss_cons (ps_set (i := 5) nd rfl (Or.inl rfl) (pe_tup (pa_cons pe_str (pa_cons (pe_op op_add_str (pv 4) pe_str) (pa_cons (pe_call G_law_term (hr.mono (by omega)) rfl m_law_term k_law_term b_law_term .nil pass0 (pa_cons (pv 0) (pa_cons (pe_op op_cat (pv 1) (pe_lst (pa_cons (pv 4) (pa_cons (pe_op op_add_str (pv 4) pe_str) pa_nil)))) (pa_cons (pe_op op_sub (pv 2) pe_int) pa_nil)))) pa_nil)))))
      (pss_one (ps_ret (pe_tup (pa_cons pe_str (pa_cons (pv 4) (pa_cons (pv 5) (pa_cons (pe_call G_law_term (hr.mono (by omega)) rfl m_law_term k_law_term b_law_term .nil pass0 (pa_cons (pv 0) (pa_cons (pe_op op_cat (pv 1) (pe_lst (pa_cons (pv 4) (pa_cons (pv 4) pa_nil)))) (pa_cons (pe_op op_sub (pv 2) pe_int) pa_nil)))) pa_nil)))))))) pss_nil)
      (pss_cons (ps_if (pt_cmpR op_eq (pv 3) pe_int (nomark _)) (pss_cons (ps_par (i := 5) (j := 6) (by rfl) nd rfl rfl (by decide) rfl rfl (pa_cons (pe_call G_law_term (hr.mono (by omega)) rfl m_law_term k_law_term b_law_term .nil pass0 (pa_cons (pv 0) (pa_cons (pv 1) (pa_cons (pe_op op_sub (pv 2) pe_int) pa_nil)))) (pa_cons (pe_call G_law_leaf (hr.mono (by omega)) rfl m_law_leaf k_law_leaf b_law_leaf .nil pass0 (pa_cons (pv 0) (pa_cons (pv 1) pa_nil))) pa_nil)) (by rfl))
      (pss_one (ps_ret (pe_tup (pa_cons pe_str (pa_cons (pe_call G_law_one (hr.mono (by omega)) rfl m_law_one k_law_one b_law_one .nil pass0 (pa_cons (pv 0) (pa_cons (pe_lst (pa_cons (pe_tup (pa_cons pe_str (pa_cons pe_bl pa_nil))) (pa_cons (pv 6) pa_nil))) pa_nil))) (pa_cons (pv 5) (pa_cons (pe_call G_law_one (hr.mono (by omega)) rfl m_law_one k_law_one b_law_one .nil pass0 (pa_cons (pv 0) (pa_cons (pe_lst (pa_cons (pv 5) (pa_cons (pv 6) pa_nil))) pa_nil))) pa_nil)))))))) pss_nil)
      (pss_cons (ps_if (pt_cmpR op_eq (pv 3) pe_int (nomark _)) (pss_one (ps_ret (pe_tup (pa_cons pe_str (pa_cons (pe_lc (own := [("k", 7)]) (g := gName 7) (tt := tYes) rfl nd (pi_range1 (by rfl) z_range (pa_cons (pe_op op_add pe_int (pe_call G_law_next (hr.mono (by omega)) rfl m_law_next k_law_next b_law_next .nil pass0 (pa_cons (pv 0) (pa_cons pe_int pa_nil)))) pa_nil)) (blkOk_by (N := N_law_term) (sc := defScope s_law_term) (by decide +kernel)) (fun _ _ _ _ _ => (pg_name (i := 7) nd rfl (Or.inl rfl))) (fun _ _ _ _ _ => pts_nil) (fun _ _ _ _ _ => (pe_call G_law_term (hr.mono (by omega)) rfl m_law_term k_law_term b_law_term .nil pass0 (pa_cons (pv 0) (pa_cons (pv 1) (pa_cons (pe_op op_sub (pv 2) pe_int) pa_nil)))))) pa_nil))))) pss_nil)
      (pss_cons (ps_if (pt_cmpR op_eq (pv 3) pe_int (nomark _)) (pss_cons (ps_set (i := 5) nd rfl (Or.inl rfl) (pe_tup (pa_cons pe_str (pa_cons (pe_lst (pa_cons (pe_call G_law_term (hr.mono (by omega)) rfl m_law_term k_law_term b_law_term .nil pass0 (pa_cons (pv 0) (pa_cons (pv 1) (pa_cons (pe_op op_sub (pv 2) pe_int) pa_nil)))) (pa_cons (pe_call G_law_leaf (hr.mono (by omega)) rfl m_law_leaf k_law_leaf b_law_leaf .nil pass0 (pa_cons (pv 0) (pa_cons (pv 1) pa_nil))) pa_nil))) pa_nil))))
      (pss_one (ps_ret (pe_tup (pa_cons pe_str (pa_cons (pe_call G_law_next (hr.mono (by omega)) rfl m_law_next k_law_next b_law_next .nil pass0 (pa_cons (pv 0) (pa_cons pe_int pa_nil))) (pa_cons pe_int (pa_cons (pe_call G_law_one (hr.mono (by omega)) rfl m_law_one k_law_one b_law_one .nil pass0 (pa_cons (pv 0) (pa_cons (pe_lst (pa_cons (pv 5) (pa_cons (pv 5) (pa_cons (pe_call G_law_leaf (hr.mono (by omega)) rfl m_law_leaf k_law_leaf b_law_leaf .nil pass0 (pa_cons (pv 0) (pa_cons (pv 1) pa_nil))) pa_nil)))) pa_nil))) pa_nil)))))))) pss_nil)
      (pss_one (ps_ret (pe_call G_law_record (hr.mono (by omega)) rfl m_law_record k_law_record b_law_record .nil pass0 (pa_cons (pv 0) (pa_cons (pv 1) (pa_cons (pv 2) (pa_cons (pe_cmpR op_eq (pv 3) pe_int (nomark _)) pa_nil))))))))))))))))), ?_⟩
  walk_at "rd"
  refine ⟨s, _, rfl, hs, by omega, by omega, fun way H1 w0 w1 k1 hs1 => ?_⟩
  have hl1 := k1.list hs (no3_strs ns) hl
  have leafy : ∀ t, Drawn 0 ns t → Drawn d ns t := fun t r => by
    obtain ⟨r1, r2, r3, r4⟩ := r
    have pd := szOf_pos d
    simp only [szOf] at r2
    exact ⟨r1, by omega, by omega, r4⟩
  walk_at "rd"
  refine ite2 (fun c => ?_) (fun c => ?_)
  · walk_at "rd"
    exact ⟨s, l, ns, rfl, hs1, SqL.of hl1, hn, by omega, fun v H2 t k2 hs2 m r => q v H2 t (k1.trans k2) hs2 (m.same (nw_in k1 hs1)) (leafy t r)⟩
  walk_at "rd"
  refine ite2 (fun c' => ?_) (fun c' => ?_)
  · walk_at "rd"
    exact ⟨s, l, ns, rfl, hs1, SqL.of hl1, hn, by omega, fun v H2 t k2 hs2 m r => q v H2 t (k1.trans k2) hs2 (m.same (nw_in k1 hs1)) (leafy t r)⟩
  have hd0 : d ≠ 0 := fun z => c (by rw [z]; rfl)
  obtain ⟨e, rfl⟩ : ∃ e, d = e + 1 := ⟨d - 1, by omega⟩
  clear leafy c c'
  obtain ⟨c1, hc1, hm1⟩ := sign_at (x := "abcdefgh") (n := 8) (by decide +kernel) (i := ((e + 1 : Nat) : Int)) (by omega) (by omega)
  walk_at "rd"
  refine ⟨_, _, c1, rfl, rfl, by decide +kernel, hc1, ?_⟩
  walk_at "rd"
  refine ⟨s, _, rfl, hs1, by omega, by omega, fun i2 H2 i20 i21 k2 hs2 => ?_⟩
  have kX := k1.trans k2
  have hlX := k2.list hs1 (no3_strs ns) hl1
  clear hl1 k1 hs1 k2
  obtain ⟨c2, hc2, hm2⟩ := sign_at (x := "xyz") (n := 3) (by decide +kernel) (i := i2) (by omega) (by omega)
  refine ⟨_, _, c2, rfl, rfl, by decide +kernel, hc2, ?_⟩
  refine ⟨_, _, rfl, rfl, (by show 1 + 1 ≤ sizeLine; decide), ?_⟩
  walk_at "rd"
  refine ⟨l, _, rfl, .inl (SqL.of hlX), ?_⟩
  walk_at "rd"
  have el : (List.map V.str ns).length = ns.length := List.length_map _
  obtain ⟨c3, hc3, hm3⟩ := sign_at (x := "klmnop") (n := 6) (by decide +kernel) (i := (((List.map V.str ns).length : Nat) : Int) % 6) (by omega) (by omega)
  refine ⟨_, _, c3, rfl, rfl, by decide +kernel, hc3, ?_⟩
  refine ⟨_, _, rfl, rfl, (by show 2 + 1 ≤ sizeLine; decide), ?_⟩
  walk_at "rd"
  refine ⟨l, _, rfl, .inl (SqL.of hlX), ?_⟩
  walk_at "rd"
  obtain ⟨q1, q2, q3⟩ := q_times (i := (((List.map V.str ns).length : Nat) : Int) / 6) (by omega) (by omega)
  refine ⟨q1, ?_⟩
  have low1 : low ((((⟨#[c1]⟩ : Str) ++ ⟨#[c2]⟩) ++ ⟨#[c3]⟩) ++ PySem.Txt.mul "q" ((((List.map V.str ns).length : Nat) : Int) / 6)) :=
    low_add (low_add (low_add (low_sign (by decide +kernel : low "abcdefgh") hm1) (low_sign (by decide +kernel : low "xyz") hm2)) (low_sign (by decide +kernel : low "klmnop") hm3)) q3
  have sn1 : sn ((((⟨#[c1]⟩ : Str) ++ ⟨#[c2]⟩) ++ ⟨#[c3]⟩) ++ PySem.Txt.mul "q" ((((List.map V.str ns).length : Nat) : Int) / 6)) := sn_add (sn_add (sn_own hm2))
  have len1 : ((((⟨#[c1]⟩ : Str) ++ ⟨#[c2]⟩) ++ ⟨#[c3]⟩) ++ PySem.Txt.mul "q" ((((List.map V.str ns).length : Nat) : Int) / 6)).length = 3 + (PySem.Txt.mul "q" ((((List.map V.str ns).length : Nat) : Int) / 6)).length := by
    rw [len_add]
    rfl
  refine ⟨_, _, rfl, rfl, sz (by show 3 + _ ≤ 1000; omega), ?_⟩
  generalize (((⟨#[c1]⟩ : Str) ++ ⟨#[c2]⟩) ++ ⟨#[c3]⟩) ++ PySem.Txt.mul "q" ((((List.map V.str ns).length : Nat) : Int) / 6) = own at *
  have own6 : own.length ≤ 6 := by omega
  have own1 : isNm own := ⟨low_name low1 (by omega) (by omega), sn_not sn1⟩
  have hszE : szOf (e + 1) = 3 * szOf e + 3 := rfl
  have pd := szOf_pos e
  clear hc1 hm1 hc2 hm2 hc3 hm3 q1 q2 q3 el
  clear c1 c2 c3 i20 i21
  walk_at "rd"
  intro pt0 hpt0
  have St0 := same_new hpt0 (.tup [V.int 1, V.int 2])
  replace kX := kX.same St0
  replace hs2 := hs2.same St0
  replace hlX := St0 _ _ hlX
  refine ⟨pt0, _, rfl, .inr (SqT.of upd_same), rfl, rfl, _, rfl, ?_⟩
  clear St0
  generalize upd _ pt0 (HO.tup [V.int 1, V.int 2]) = Y0 at *
  refine ite2 (fun c0 => ?_) (fun c0 => ?_)
  · walk_at "rd"
    intro pa0 hpa0
    have Sa0 := same_new hpa0 (.lst [V.str (own)])
    refine ⟨l, pa0, _, _, rfl, rfl, Sa0 _ _ hlX, upd_same, sz (by simp; omega), fun lf hplf => ?_⟩
    have Slf := Sa0.trans (same_new hplf (.lst (ns.map V.str ++ [V.str (own)])))
    have hlf : upd (upd Y0 pa0 (.lst [V.str (own)])) lf (.lst (ns.map V.str ++ [V.str (own)])) lf = some (.lst ((ns ++ [own]).map V.str)) := by
      rw [upd_same, List.map_append]
      rfl
    walk_at "rd"
    refine ⟨s, lf, ns ++ [own], e, congrArg (fun z => [V.ref s, V.ref lf, V.int z]) (by omega), hs2.same Slf, hlf, (fun x hx => by rcases List.mem_append.mp hx with hx | hx; exact hn x hx; rw [List.mem_singleton.mp hx]; exact own1), by omega, by omega, by simp; omega, fun v3 X3 t3 k3 hs3 m3 r3 => ?_⟩

    have k4 := kX.same Slf
    have k5 := k4.trans k3
    obtain ⟨r31, r32, r33, r34⟩ := r3
    walk_at "rd"
    intro p6 hp6
    have S6 := same_new hp6 (.tup [V.str "fun", V.str own, v3])
    exact q _ _ (.node (.fn own) [t3]) (k5.same S6) (hs3.same S6) (.fn (SqT.of (nw_at (k5.none hs3 hp6))) ((m3.same (nw_in k4 (hs2.same Slf))).same (nw_same S6)))
      ⟨.mk ⟨rfl, own1⟩ trivial (by simp) (fun t ht => by rw [List.mem_singleton.mp ht]; exact r31), by simp only [T.size, T.sizes]; omega, by simp only [T.deep, T.deeps]; omega, sc1 (fun n => nofun) (r34.mono (subs1 own))⟩
  walk_at "rd"
  intro pt1 hpt1
  have St1 := same_new hpt1 (.tup [V.int 3, V.int 4])
  replace kX := kX.same St1
  replace hs2 := hs2.same St1
  replace hlX := St1 _ _ hlX
  refine ⟨pt1, _, rfl, .inr (SqT.of upd_same), rfl, rfl, _, rfl, ?_⟩
  clear St1
  generalize upd _ pt1 (HO.tup [V.int 3, V.int 4]) = Y1 at *
  refine ite2 (fun c1 => ?_) (fun c1 => ?_)
  · walk_at "rd"
    refine ⟨s, l, ns, e, congrArg (fun z => [V.ref s, V.ref l, V.int z]) (by omega), hs2, hlX, hn, by omega, by omega, by omega, fun v3 X3 t3 k3 hs3 m3 r3 => ?_⟩

    have k4 := kX.trans k3
    have hl3 := k3.list hs2 (no3_strs ns) hlX
    obtain ⟨r31, r32, r33, r34⟩ := r3
    walk_at "rd"
    refine ⟨s, l, ns, e, congrArg (fun z => [V.ref s, V.ref l, V.int z]) (by omega), hs3, hl3, hn, by omega, by omega, by omega, fun v5 X5 t5 k5 hs5 m5 r5 => ?_⟩

    have k6 := k4.trans k5
    obtain ⟨r51, r52, r53, r54⟩ := r5
    walk_at "rd"
    intro p6 hp6
    have S6 := same_new hp6 (.tup [V.str "app", v3, v5])
    exact q _ _ (.node .app [t3, t5]) (k6.same S6) (hs5.same S6) (.app (SqT.of (nw_at (k6.none hs5 hp6))) (((m3.same (nw_in kX hs2)).same (nw_keep k5 hs)).same (nw_same S6)) ((m5.same (nw_in k4 hs3)).same (nw_same S6)))
      ⟨.mk rfl trivial (by simp) (fun t ht => by simp at ht; rcases ht with rfl | rfl <;> assumption), by simp only [T.size, T.sizes]; omega, by simp only [T.deep, T.deeps]; omega, sc2 (fun n => nofun) r34 r54⟩
  walk_at "rd"
  intro pt2 hpt2
  have St2 := same_new hpt2 (.tup [V.int 5, V.int 6])
  replace kX := kX.same St2
  replace hs2 := hs2.same St2
  replace hlX := St2 _ _ hlX
  refine ⟨pt2, _, rfl, .inr (SqT.of upd_same), rfl, rfl, _, rfl, ?_⟩
  clear St2
  generalize upd _ pt2 (HO.tup [V.int 5, V.int 6]) = Y2 at *
  refine ite2 (fun c2 => ?_) (fun c2 => ?_)
  · walk_at "rd"
    refine ⟨s, l, ns, e, congrArg (fun z => [V.ref s, V.ref l, V.int z]) (by omega), hs2, hlX, hn, by omega, by omega, by omega, fun v3 X3 t3 k3 hs3 m3 r3 => ?_⟩

    have k4 := kX.trans k3
    replace hlX := k3.list hs2 (no3_strs ns) hlX
    obtain ⟨r31, r32, r33, r34⟩ := r3
    walk_at "rd"
    intro pa0 hpa0
    have Sa0 := same_new hpa0 (.lst [V.str (own), V.str (own)])
    refine ⟨l, pa0, _, _, rfl, rfl, Sa0 _ _ hlX, upd_same, sz (by simp; omega), fun lf hplf => ?_⟩
    have Slf := Sa0.trans (same_new hplf (.lst (ns.map V.str ++ [V.str (own), V.str (own)])))
    have hlf : upd (upd X3 pa0 (.lst [V.str (own), V.str (own)])) lf (.lst (ns.map V.str ++ [V.str (own), V.str (own)])) lf = some (.lst ((ns ++ [own, own]).map V.str)) := by
      rw [upd_same, List.map_append]
      rfl
    walk_at "rd"
    refine ⟨s, lf, ns ++ [own, own], e, congrArg (fun z => [V.ref s, V.ref lf, V.int z]) (by omega), hs3.same Slf, hlf, (fun x hx => by rcases List.mem_append.mp hx with hx | hx; exact hn x hx; (simp at hx; rw [hx]; exact own1)), by omega, by omega, by simp; omega, fun v5 X5 t5 k5 hs5 m5 r5 => ?_⟩

    have k4b := k4.same Slf
    have k6 := k4b.trans k5
    obtain ⟨r51, r52, r53, r54⟩ := r5
    walk_at "rd"
    intro p6 hp6
    have S6 := same_new hp6 (.tup [V.str "let", V.str own, v3, v5])
    exact q _ _ (.node (.lt own) [t3, t5]) (k6.same S6) (hs5.same S6) (.lt (SqT.of (nw_at (k6.none hs5 hp6))) ((((m3.same (nw_in kX hs2)).same (nw_same Slf)).same (nw_keep k5 hs)).same (nw_same S6)) ((m5.same (nw_in k4b (hs3.same Slf))).same (nw_same S6)))
      ⟨.mk ⟨rfl, own1⟩ trivial (by simp) (fun t ht => by simp at ht; rcases ht with rfl | rfl <;> assumption), by simp only [T.size, T.sizes]; omega, by simp only [T.deep, T.deeps]; omega, sc2 (fun n => nofun) r34 (r54.mono (subs2 own))⟩
  walk_at "rd"
  refine ite2 (fun c3 => ?_) (fun c3 => ?_)
  · walk_at "rd"
    have ownr : isNm (own ++ "r") := ⟨low_name (low_add low1 (by decide +kernel)) (by rw [len_add]; omega) (by rw [len_add]; show own.length + 1 ≤ 8; omega), sn_not (sn_add sn1)⟩
    refine ⟨sz (by show own.length + 1 ≤ 1000; omega), ?_⟩
    walk_at "rd"
    refine ⟨sz (by show own.length + 1 ≤ 1000; omega), ?_⟩
    walk_at "rd"
    intro pa0 hpa0
    have Sa0 := same_new hpa0 (.lst [V.str (own), V.str (own ++ "r")])
    refine ⟨l, pa0, _, _, rfl, rfl, Sa0 _ _ hlX, upd_same, sz (by simp; omega), fun lf hplf => ?_⟩
    have Slf := Sa0.trans (same_new hplf (.lst (ns.map V.str ++ [V.str (own), V.str (own ++ "r")])))
    have hlf : upd (upd Y2 pa0 (.lst [V.str (own), V.str (own ++ "r")])) lf (.lst (ns.map V.str ++ [V.str (own), V.str (own ++ "r")])) lf = some (.lst ((ns ++ [own, own ++ "r"]).map V.str)) := by
      rw [upd_same, List.map_append]
      rfl
    walk_at "rd"
    refine ⟨s, lf, ns ++ [own, own ++ "r"], e, congrArg (fun z => [V.ref s, V.ref lf, V.int z]) (by omega), hs2.same Slf, hlf, (fun x hx => by rcases List.mem_append.mp hx with hx | hx; exact hn x hx; (simp at hx; rcases hx with rfl | rfl; exact own1; exact ownr)), by omega, by omega, by simp; omega, fun v3 X3 t3 k3 hs3 m3 r3 => ?_⟩

    have k4b := kX.same Slf
    have k4 := k4b.trans k3
    replace hlX := k3.list (hs2.same Slf) (no3_strs ns) (Slf _ _ hlX)
    obtain ⟨r31, r32, r33, r34⟩ := r3
    walk_at "rd"
    intro p4 hp4
    have S4 := same_new hp4 (.tup [V.str "fun", V.str (own ++ "r"), v3])
    have m4 : Tm K (nw H _) (.ref p4) (.node (.fn (own ++ "r")) [t3]) := .fn (SqT.of (nw_at (k4.none hs3 hp4))) ((m3.same (nw_in k4b (hs2.same Slf))).same (nw_same S4))
    replace k4 := k4.same S4
    replace hs3 := hs3.same S4
    replace hlX := S4 _ _ hlX
    clear S4 m3 k4b
    generalize upd X3 p4 (HO.tup [V.str "fun", V.str (own ++ "r"), v3]) = X4 at *
    walk_at "rd"
    walk_at "rd"
    intro pa1 hpa1
    have Sa1 := same_new hpa1 (.lst [V.str (own), V.str (own)])
    refine ⟨l, pa1, _, _, rfl, rfl, Sa1 _ _ hlX, upd_same, sz (by simp; omega), fun lg hplg => ?_⟩
    have Slg := Sa1.trans (same_new hplg (.lst (ns.map V.str ++ [V.str (own), V.str (own)])))
    have hlg : upd (upd X4 pa1 (.lst [V.str (own), V.str (own)])) lg (.lst (ns.map V.str ++ [V.str (own), V.str (own)])) lg = some (.lst ((ns ++ [own, own]).map V.str)) := by
      rw [upd_same, List.map_append]
      rfl
    walk_at "rd"
    refine ⟨s, lg, ns ++ [own, own], e, congrArg (fun z => [V.ref s, V.ref lg, V.int z]) (by omega), hs3.same Slg, hlg, (fun x hx => by rcases List.mem_append.mp hx with hx | hx; exact hn x hx; (simp at hx; rw [hx]; exact own1)), by omega, by omega, by simp; omega, fun v5 X5 t5 k5 hs5 m5 r5 => ?_⟩

    have k4b := k4.same Slg
    have k6 := k4b.trans k5
    obtain ⟨r51, r52, r53, r54⟩ := r5
    walk_at "rd"
    intro p6 hp6
    have S6 := same_new hp6 (.tup [V.str "rec", V.str own, V.ref p4, v5])
    have wf4 : Wf (.node (.fn (own ++ "r")) [t3]) := .mk ⟨rfl, ownr⟩ trivial (by simp) (fun t ht => by rw [List.mem_singleton.mp ht]; exact r31)
    exact q _ _ (.node (.rc own) [.node (.fn (own ++ "r")) [t3], t5]) (k6.same S6) (hs5.same S6) (.rc (SqT.of (nw_at (k6.none hs5 hp6))) (((m4.same (nw_same Slg)).same (nw_keep k5 hs)).same (nw_same S6)) ((m5.same (nw_in k4b (hs3.same Slg))).same (nw_same S6)))
      ⟨.mk ⟨rfl, own1⟩ trivial (by simp) (fun t ht => by simp at ht; rcases ht with rfl | rfl <;> assumption), by simp only [T.size, T.sizes]; omega, by simp only [T.deep, T.deeps]; omega, sc2 (fun n => nofun) (sc1 (fun n => nofun) (r34.mono (subs3 own _))) (r54.mono (subs2 own))⟩
  walk_at "rd"
  refine ite2 (fun c4 => ?_) (fun c4 => ?_)
  · walk_at "rd"
    refine ⟨s, l, ns, e, congrArg (fun z => [V.ref s, V.ref l, V.int z]) (by omega), hs2, hlX, hn, by omega, by omega, by omega, fun v3 X3 t3 k3 hs3 m3 r3 => ?_⟩

    have k4 := kX.trans k3
    have hl3 := k3.list hs2 (no3_strs ns) hlX
    obtain ⟨r31, r32, r33, r34⟩ := r3
    walk_at "rd"
    refine ⟨s, l, ns, rfl, hs3, SqL.of hl3, hn, by omega, fun v5 X5 t5 k5 hs5 m5 r5 => ?_⟩
    have k6 := k4.trans k5
    obtain ⟨r51, r52, r53, r54⟩ := r5
    simp only [szOf] at r52
    walk_at "rd"
    refine ⟨_, _, rfl, ?_⟩
    have m3b := (m3.same (nw_in kX hs2)).same (nw_keep k5 hs)
    have m5b := m5.same (nw_in k4 hs3)
    clear m3 m5 k5 k3 hl3 hlX k4 hs3
    walk_at "rd"
    intro p6 hp6
    have S6 := same_new hp6 (.tup [V.str "bool", V.bl true])
    have mb6 : Tm K (nw H (upd X5 p6 (.tup [V.str "bool", V.bl true]))) (.ref p6) (.node (.bool true) []) := .bool (SqT.of (nw_at (k6.none hs5 hp6)))
    have m36 := m3b.same (nw_same S6)
    have m56 := m5b.same (nw_same S6)
    have k7 := k6.same S6
    have hs7 := hs5.same S6
    clear S6 m3b m5b k6 hs5
    generalize upd X5 p6 (HO.tup [V.str "bool", V.bl true]) = X6 at *
    walk_at "rd"
    intro p8 hp8
    have S8 := same_new hp8 (.lst [V.ref p6, v5])
    refine ⟨s, p8, _, rfl, hs7.same S8, SqL.of upd_same, No3.of_ref fun v hv j z => ?_, by simp, by simp, fun v9 X9 hv9 k9 hs9 => ?_⟩
    · simp at hv
      rcases hv with rfl | rfl
      · exact mb6.ne_int j z
      · exact m56.ne_int j z
    have kA := (k7.same S8).trans k9
    obtain ⟨t9, m9, w9, z9, d9, c9⟩ : ∃ t, Tm K (nw H X9) v9 t ∧ Wf t ∧ t.size ≤ 1 ∧ t.deep ≤ 1 ∧ Sc ns t := by
      simp at hv9
      rcases hv9 with rfl | rfl
      · exact ⟨_, (mb6.same (nw_same S8)).same (nw_keep k9 hs), .mk rfl trivial (by simp) (fun t ht => by cases ht), by simp [T.size, T.sizes], by simp [T.deep, T.deeps], sc0 fun n => nofun⟩
      · exact ⟨_, (m56.same (nw_same S8)).same (nw_keep k9 hs), r51, by omega, by omega, r54⟩
    have m39 := (m36.same (nw_same S8)).same (nw_keep k9 hs)
    have m59 := (m56.same (nw_same S8)).same (nw_keep k9 hs)
    clear S8 k7 hs7 m36 m56 mb6 k9
    walk_at "rd"
    intro pB hpB
    have SB := same_new hpB (.lst [v3, v5])
    refine ⟨s, pB, _, rfl, hs9.same SB, SqL.of upd_same, No3.of_ref fun v hv j z => ?_, by simp, by simp, fun vC XC hvC kC hsC => ?_⟩
    · simp at hv
      rcases hv with rfl | rfl
      · exact m39.ne_int j z
      · exact m59.ne_int j z
    have kD := (kA.same SB).trans kC
    obtain ⟨tC, mC, wC, zC, dC, cC⟩ : ∃ t, Tm K (nw H XC) vC t ∧ Wf t ∧ t.size ≤ szOf e ∧ t.deep ≤ 2 * e + 1 ∧ Sc ns t := by
      simp at hvC
      rcases hvC with rfl | rfl
      · exact ⟨_, (m39.same (nw_same SB)).same (nw_keep kC hs), r31, r32, r33, r34⟩
      · exact ⟨_, (m59.same (nw_same SB)).same (nw_keep kC hs), r51, by omega, by omega, r54⟩
    have m9D := (m9.same (nw_same SB)).same (nw_keep kC hs)
    have m3D := (m39.same (nw_same SB)).same (nw_keep kC hs)
    walk_at "rd"
    intro pE hpE
    have SE := same_new hpE (.tup [V.str "if", v9, v3, vC])
    exact q _ _ (.node .cond [t9, t3, tC]) (kD.same SE) (hsC.same SE) (.cond (SqT.of (nw_at (kD.none hsC hpE))) (m9D.same (nw_same SE)) (m3D.same (nw_same SE)) (mC.same (nw_same SE)))
      ⟨.mk rfl trivial (by simp) (fun t ht => by simp at ht; rcases ht with rfl | rfl | rfl <;> assumption), by simp only [T.size, T.sizes]; omega, by simp only [T.deep, T.deeps]; omega, sc3 (fun n => nofun) c9 r34 cC⟩
  walk_at "rd"
  refine ite2 (fun c5 => ?_) (fun c5 => ?_)
  · walk_at "rd"
    refine ⟨s, _, rfl, hs2, by omega, by omega, fun i5 X5 i50 i51 k5 hs5 => ?_⟩
    have kA := kX.trans k5
    have hl5 := k5.list hs2 (no3_strs ns) hlX
    clear k5 hs2 hlX kX
    walk_at "rd"
    intro D hD
    have nD : H D = none := kA.none hs5 hD
    refine lc_range (lo := 0) (n := (2 + i5).toNat) (fun i X => ∃ (G : Hp) (us : List V) (ts : List T), Same G X ∧ G D = none ∧ Keep s X5 G ∧ Src G s ∧ X D = some (.lst us) ∧ us.length = i ∧ ts.length = i ∧
        (∀ (j : Nat) (u : V) (t : T), us[j]? = some u → ts[j]? = some t → Tm K (nw H G) u t) ∧ ∀ t ∈ ts, Drawn e ns t)
      ⟨X5, [], [], same_new hD _, hD, Keep.refl _ _, hs5, upd_same, rfl, rfl, fun _ _ _ h => by simp at h, fun t h => by cases h⟩ ?_ ?_
    · rintro i X hi ⟨G, us, ts, g1, g2, g3, g4, g5, e2, e3, f2, f3⟩
      walk_at "rd"
      refine ⟨s, l, ns, e, congrArg (fun z => [V.ref s, V.ref l, V.int z]) (by omega), g4.same g1, g1 _ _ (g3.list hs5 (no3_strs ns) hl5), hn, by omega, by omega, by omega, fun v X' t kx hsx tm dr => ?_⟩
      obtain ⟨a1, a2, a3, a4⟩ := grow0 (L := .lst (us ++ [v])) g1 g2 g4 kx hsx
      have b1 : Same (nw H G) (nw H (off D X')) := nw_keep a3 hs
      have hD' : X' D = some (.lst us) := kx.list (g4.same g1) (No3.of_ref fun v hv j z => by
        obtain ⟨c, hc, q⟩ := List.getElem_of_mem hv
        exact (f2 c v (ts[c]'(by omega)) (by rw [List.getElem?_eq_getElem hc, q]) (List.getElem?_eq_getElem (by omega))).ne_int j z) g5
      refine ⟨us, hD', small1000 (by omega), off D X', us ++ [v], ts ++ [t], a1, a2, g3.trans a3, a4, upd_same, by simp [e2], by simp [e3], ?_, ?_⟩
      · intro j u t' h1 h2
        by_cases q : j < i
        · rw [List.getElem?_append_left (by omega)] at h1 h2
          exact (f2 j u t' h1 h2).same b1
        · have hj : j = i := by
            have := (List.getElem?_eq_some_iff.mp h1).1
            simp at this
            omega
          subst hj
          rw [List.getElem?_append_right (by omega)] at h1 h2
          simp [e2, e3] at h1 h2
          rw [← h1, ← h2]
          refine tm.same (fun c o hc => ?_)
          obtain ⟨c1, c2⟩ := nw_get hc
          have c3 : H c = none := ((kA.trans g3).same g1).none (g4.same g1) c1
          rw [nw_of c3, off_ne (fun z => by rw [z, g5] at c1; cases c1)]
          exact c2
      · intro t' ht
        rcases List.mem_append.mp ht with ht | ht
        · exact f3 t' ht
        · rw [List.mem_singleton.mp ht]
          exact dr
    · rintro X ⟨G, us, ts, g1, g2, g3, g4, g5, e2, e3, f2, f3⟩
      have kE := (kA.trans g3).same g1
      have hsE := g4.same g1
      walk_at "rd"
      intro p6 hp6
      have S6 := same_new hp6 (.tup [V.str "tuple", V.ref D])
      have b6 := nw_same (H := H) S6
      have z6 : (T.node .tup ts).size ≤ 1 + 3 * szOf e := node_size (by omega) fun t ht => (f3 t ht).2.1
      have d6 : (T.node .tup ts).deep ≤ 1 + (2 * e + 1) := node_deep fun t ht => (f3 t ht).2.2.1
      exact q _ _ (.node .tup ts) (kE.same S6) (hsE.same S6) (.tup (SqT.of (nw_at (kE.none hsE hp6))) (SqL.of (b6 _ _ ((nw_of nD).trans g5))) (by omega) (fun j u t h1 h2 => ((f2 j u t h1 h2).same (nw_same g1)).same b6))
        ⟨.mk ⟨by omega, by omega⟩ trivial (by omega) fun t ht => (f3 t ht).1, by omega, by omega, scL (fun n => nofun) (fun i => rfl) fun t ht => (f3 t ht).2.2.2⟩
  walk_at "rd"
  refine ite2 (fun c6 => ?_) (fun c6 => ?_)
  · walk_at "rd"
    refine ⟨s, l, ns, e, congrArg (fun z => [V.ref s, V.ref l, V.int z]) (by omega), hs2, hlX, hn, by omega, by omega, by omega, fun v3 X3 t3 k3 hs3 m3 r3 => ?_⟩

    have k4 := kX.trans k3
    have hl3 := k3.list hs2 (no3_strs ns) hlX
    obtain ⟨r31, r32, r33, r34⟩ := r3
    walk_at "rd"
    refine ⟨s, l, ns, rfl, hs3, SqL.of hl3, hn, by omega, fun v5 X5 t5 k5 hs5 m5 r5 => ?_⟩
    have k6 := k4.trans k5
    have hl5 := k5.list hs3 (no3_strs ns) hl3
    obtain ⟨r51, r52, r53, r54⟩ := r5
    simp only [szOf] at r52
    have m3b := (m3.same (nw_in kX hs2)).same (nw_keep k5 hs)
    have m5b := m5.same (nw_in k4 hs3)
    clear m3 m5 k5 k3 hl3 hlX k4 hs3 kX hs2
    walk_at "rd"
    intro p6 hp6
    have S6 := same_new hp6 (.lst [v3, v5])
    have n6 := k6.none hs5 hp6
    walk_at "rd"
    intro p7 hp7
    have S7 := same_new hp7 (.tup [V.str "tuple", V.ref p6])
    have n7 := (k6.same S6).none (hs5.same S6) hp7
    have b67 := nw_same (H := H) (S6.trans S7)
    have mT : Tm K (nw H (upd (upd X5 p6 (.lst [v3, v5])) p7 (.tup [V.str "tuple", V.ref p6]))) (.ref p7) (.node .tup [t3, t5]) := .tup (xs := [v3, v5]) (SqT.of (nw_at n7)) (SqL.of ((nw_same S7) _ _ (nw_at n6))) rfl (fun j u t h1 h2 => by
      match j, h1, h2 with
      | 0, h1, h2 =>
        cases h1
        cases h2
        exact m3b.same b67
      | 1, h1, h2 =>
        cases h1
        cases h2
        exact m5b.same b67
      | n + 2, h1, h2 => simp at h1)
    have wT : Wf (.node .tup [t3, t5]) := .mk ⟨by simp, by simp⟩ trivial (by simp) (fun t ht => by simp at ht; rcases ht with rfl | rfl <;> assumption)
    have zT : (T.node .tup [t3, t5]).size ≤ szOf e + 2 := by
      simp only [T.size, T.sizes]
      omega
    have dT : (T.node .tup [t3, t5]).deep ≤ 2 * e + 2 := by
      simp only [T.deep, T.deeps]
      omega
    have cT : Sc ns (.node .tup [t3, t5]) := sc2 (fun n => nofun) r34 r54
    have k8 := k6.same (S6.trans S7)
    have hs8 := hs5.same (S6.trans S7)
    have hl8 := (S6.trans S7) _ _ hl5
    clear b67 m3b m5b k6 hs5 hl5 S6 S7 n6 n7
    generalize upd (upd X5 p6 (HO.lst [v3, v5])) p7 (HO.tup [V.str "tuple", V.ref p6]) = X7 at *
    walk_at "rd"
    refine ⟨s, _, rfl, hs8, by omega, by omega, fun i9 X9 i90 i91 k9 hs9 => ?_⟩
    have mT9 := mT.same (nw_keep k9 hs)
    have kA := k8.trans k9
    have hl9 := k9.list hs8 (no3_strs ns) hl8
    clear mT k8 hs8 hl8 k9
    walk_at "rd"
    refine ⟨s, l, ns, rfl, hs9, SqL.of hl9, hn, by omega, fun vB XB tB kB hsB mB rB => ?_⟩
    obtain ⟨rB1, rB2, rB3, rB4⟩ := rB
    simp only [szOf] at rB2
    have mTB := mT9.same (nw_keep kB hs)
    have mBB := mB.same (nw_in kA hs9)
    have kC := kA.trans kB
    clear mT9 mB kA kB hs9 hl9
    walk_at "rd"
    intro pD hpD
    have SD := same_new hpD (.lst [V.ref p7, V.ref p7, vB])
    refine ⟨s, pD, _, rfl, hsB.same SD, SqL.of upd_same, No3.of_ref fun v hv j z => ?_, by simp, by simp, fun vE XE hvE kE hsE => ?_⟩
    · simp at hv
      rcases hv with rfl | rfl
      · cases z
      · exact mBB.ne_int j z
    have kF := (kC.same SD).trans kE
    obtain ⟨tE, mE, wE, zE, dE, cE⟩ : ∃ t, Tm K (nw H XE) vE t ∧ Wf t ∧ t.size ≤ szOf e + 2 ∧ t.deep ≤ 2 * e + 2 ∧ Sc ns t := by
      simp at hvE
      rcases hvE with rfl | rfl
      · exact ⟨_, (mTB.same (nw_same SD)).same (nw_keep kE hs), wT, zT, dT, cT⟩
      · exact ⟨_, (mBB.same (nw_same SD)).same (nw_keep kE hs), rB1, by omega, by omega, rB4⟩
    walk_at "rd"
    intro pG hpG
    have SG := same_new hpG (.tup [V.str "part", V.int i9, V.int 2, vE])
    exact q _ _ (.node (.part i9 2) [tE]) (kF.same SG) (hsE.same SG) (.part (SqT.of (nw_at (kF.none hsE hpG))) (mE.same (nw_same SG)))
      ⟨.mk ⟨rfl, by omega, by omega, by omega, by omega⟩ trivial (by simp) (fun t ht => by rw [List.mem_singleton.mp ht]; exact wE), by simp only [T.size, T.sizes]; omega, by simp only [T.deep, T.deeps]; omega, sc1 (fun n => nofun) cE⟩
  walk_at "rd"
  exact ⟨s, l, ns, e, _, rfl, hs2, hlX, hn, by omega, by omega, by omega, fun v3 X3 t3 k3 hs3 m3 r3 => q v3 X3 t3 (kX.trans k3) hs3 (m3.same (nw_in kX hs2)) r3⟩
end
end Vt


set_option Elab.async false
set_option linter.all false
set_option maxRecDepth 100000
set_option maxHeartbeats 4000000

namespace Vt
open PySem PySem.Spec PyProof.Rows L2
theorem Tm.tuple {K : PySem.W.Frag} {H : Hp} {v : V} {t : T} (h : Tm K H v t) : ∃ a xs, v = .ref a ∧ SqT K H a (.str t.hd.word :: xs) := by
  cases h
  all_goals exact ⟨_, _, rfl, by assumption⟩
theorem tyT {K : PySem.W.Frag} {H : Hp} {a : Addr} {xs : List V} (h : SqT K H a xs) : TyX K H (.ref a) (.type "tuple") := by
  rcases h with (h | ⟨o, h⟩) | ⟨o, its, n, h, c, _⟩
  · exact .base (.tup h)
  · exact .fTuple h
  · exact .kTuple h c
theorem tyL {K : PySem.W.Frag} {H : Hp} {a : Addr} {xs : List V} (h : SqL K H a xs) : TyX K H (.ref a) (.type "list") := by
  rcases h with (h | ⟨o, h⟩) | ⟨o, its, n, h, c, _⟩
  · exact .base (.lst h)
  · exact .base (.frz h)
  · exact .kList h c
theorem at0 {x : V} {xs : List V} : atI (x :: xs) 0 = some x := atI_nat (j := 0) rfl
theorem ifT {c : Bool} {A B : Prop} (h : c = true) (a : A) : if c = true then A else B := by
  rw [if_pos h]
  exact a
theorem ifF {c : Bool} {A B : Prop} (h : c = false) (b : B) : if c = true then A else B := by
  rw [h, if_neg Bool.false_ne_true]
  exact b
theorem Tm.ref {K : PySem.W.Frag} {H : Hp} {v : V} {t : T} (h : Tm K H v t) : ∃ a, v = .ref a := by
  obtain ⟨a, _, e, _⟩ := h.tuple
  exact ⟨a, e⟩
theorem nil_kids {K : PySem.W.Frag} {H : Hp} (ks : List T) (e : ks = []) (j : Nat) (u : V) (r : T) (h : ([] : List V)[j]? = some u) (_ : ks[j]? = some r) : Tm K H u r := by simp at h
def Hd.isLeaf : Hd → Bool | .var _ => true | .int _ => true | .bool _ => true | _ => false
def Hd.isTup : Hd → Bool | .tup => true | _ => false
def Hd.isRecord : Hd → Bool | .record _ => true | _ => false
def Hd.isWith : Hd → Bool | .wth _ => true | _ => false
def Hd.isPart : Hd → Bool | .part _ _ => true | _ => false
def Hd.isField : Hd → Bool | .field _ => true | _ => false
theorem w_leaf (h : Hd) : inV (V.str h.word) [V.str "var", V.str "int", V.str "bool"] = h.isLeaf := by cases h <;> kernel_rfl
theorem w_tup (h : Hd) : decide (V.str h.word = V.str "tuple") = h.isTup := by cases h <;> kernel_rfl
theorem w_record (h : Hd) : decide (V.str h.word = V.str "record") = h.isRecord := by cases h <;> kernel_rfl
theorem w_with (h : Hd) : decide (V.str h.word = V.str "with") = h.isWith := by cases h <;> kernel_rfl
theorem w_part (h : Hd) : decide (V.str h.word = V.str "part") = h.isPart := by cases h <;> kernel_rfl
theorem w_field (h : Hd) : decide (V.str h.word = V.str "field") = h.isField := by cases h <;> kernel_rfl
def notStr : V → Bool | .str _ => false | _ => true
/-- the terms directly within a node -/
def spBelow (K : PySem.W.Frag) : Sp := fun vs H Q _ => ∃ (v : V) (t : T) (G0 : Hp), vs = [v] ∧ Same G0 H ∧ Tm K G0 v t ∧ Wt t ∧
  ∀ (p : Addr) (H' : Hp) (us : List V), Same H H' → H p = none → H' p = some (.lst us) → us.length = t.kids.length → (∀ (j : Nat) (u : V) (r : T), us[j]? = some u → t.kids[j]? = some r → Tm K G0 u r) → Q (.ref p) H'
end Vt


set_option Elab.async false
set_option linter.all false
set_option maxRecDepth 100000
set_option maxHeartbeats 4000000

namespace Vt
open PySem PySem.Spec PyProof.Rows L2
mutual
/-- the nodes of a term with their paths, in the order in which they begin -/
def T.rows : T → List Nat → List (List Nat × T)
  | .node h ks, p => (p, .node h ks) :: T.rowsL ks p 0
def T.rowsL : List T → List Nat → Nat → List (List Nat × T)
  | [], _, _ => []
  | t :: r, p, i => t.rows (p ++ [i]) ++ T.rowsL r p (i + 1)
end
mutual
theorem rows_len : ∀ (t : T) (p : List Nat), (t.rows p).length = t.size
  | .node h ks, p => by
    simp only [T.rows, T.size, List.length_cons, rowsL_len ks p 0]
    omega
theorem rowsL_len : ∀ (ks : List T) (p : List Nat) (i : Nat), (T.rowsL ks p i).length = T.sizes ks
  | [], _, _ => rfl
  | t :: r, p, i => by simp only [T.rowsL, T.sizes, List.length_append, rows_len t, rowsL_len r]
end
theorem rowsL_snoc (p : List Nat) (r : T) : ∀ (ks : List T) (i : Nat), T.rowsL (ks ++ [r]) p i = T.rowsL ks p i ++ r.rows (p ++ [i + ks.length])
  | [], i => by simp [T.rowsL]
  | t :: ks, i => by
    have e : i + 1 + ks.length = i + (ks.length + 1) := by omega
    simp only [List.cons_append, T.rowsL, rowsL_snoc p r ks (i + 1), List.append_assoc, List.length_cons, e]
theorem sizes_take : ∀ (ks : List T) (i : Nat), T.sizes (ks.take i) ≤ T.sizes ks
  | [], i => by simp
  | t :: r, 0 => by simp [T.sizes]
  | t :: r, i + 1 => by
    have := sizes_take r i
    simp only [List.take_succ_cons, T.sizes]
    omega
theorem deep_kid {ks : List T} {t : T} (h : t ∈ ks) : t.deep ≤ T.deeps ks := by
  induction ks with
  | nil => cases h
  | cons u r ih =>
    simp only [T.deeps]
    rcases List.mem_cons.mp h with rfl | h
    · omega
    · have := ih h
      omega
theorem size_kid {ks : List T} {t : T} (h : t ∈ ks) : t.size ≤ T.sizes ks := by
  induction ks with
  | nil => cases h
  | cons u r ih =>
    simp only [T.sizes]
    rcases List.mem_cons.mp h with rfl | h
    · omega
    · have := ih h
      omega
def nums (p : List Nat) : List V := p.map fun (n : Nat) => V.int (n : Int)
theorem nums_snoc (p : List Nat) (i : Nat) : nums (p ++ [i]) = nums p ++ [V.int (i : Int)] := by unfold nums; rw [List.map_append]; rfl
/-- a row of paths: a tuple of a path and a node; G: where the term stands -/
def Row (K : PySem.W.Frag) (G H : Hp) (v : V) (r : List Nat × T) : Prop := ∃ (b pa : Addr) (u : V), v = .ref b ∧ SqT K H b [.ref pa, u] ∧ SqT K H pa (nums r.1) ∧ Tm K G u r.2
theorem Row.same {K : PySem.W.Frag} {G H H' : Hp} {v : V} {r : List Nat × T} (h : Row K G H v r) (s : Same H H') : Row K G H' v r := by
  obtain ⟨b, pa, u, e, h1, h2, h3⟩ := h
  exact ⟨b, pa, u, e, s.tupS h1, s.tupS h2, h3⟩
theorem Row.off {K : PySem.W.Frag} {G H : Hp} {v : V} {r : List Nat × T} {D : Addr} {zs : List V} (h : Row K G H v r) (hD : H D = some (.lst zs)) : Row K G (off D H) v r := by
  obtain ⟨b, pa, u, e, h1, h2, h3⟩ := h
  exact ⟨b, pa, u, e, tup_off h1 hD, tup_off h2 hD, h3⟩
theorem Al.app {α β : Type} {R : α → β → Prop} {xs xs' : List α} {ys ys' : List β} (h : Al R xs ys) (k : Al R xs' ys') : Al R (xs ++ xs') (ys ++ ys') := by
  obtain ⟨l, f⟩ := h
  obtain ⟨l', f'⟩ := k
  refine ⟨by simp [l, l'], fun i u v hu hv => ?_⟩
  by_cases q : i < xs.length
  · rw [List.getElem?_append_left q] at hu
    rw [List.getElem?_append_left (by omega)] at hv
    exact f i u v hu hv
  · rw [List.getElem?_append_right (by omega)] at hu
    rw [List.getElem?_append_right (by omega)] at hv
    rw [← l] at hv
    exact f' _ u v hu hv
/-- the nodes of a term with their paths -/
def spAll (K : PySem.W.Frag) (n : Nat) : Sp := fun vs H Q _ => ∃ (v : V) (t : T) (G0 : Hp) (pa : Addr) (p : List Nat), vs = [v, .ref pa] ∧ Same G0 H ∧ Tm K G0 v t ∧ Wt t ∧ t.size ≤ 400 ∧ t.deep ≤ n ∧ SqT K H pa (nums p) ∧ p.length + t.deep ≤ 100 ∧
  ∀ (r : Addr) (H' : Hp) (ws : List V), Same H H' → H r = none → H' r = some (.lst ws) → Al (Row K G0 H') ws (t.rows p) → Q (.ref r) H'
end Vt


set_option Elab.async false
set_option linter.all false
set_option maxRecDepth 100000
set_option maxHeartbeats 4000000

namespace Vt
open PySem PySem.Spec PyProof.Rows L2
/-! ### lists that are cleared -/
/-- a value whose lists stand in R, at most n deep -/
inductive Cl (K : PySem.W.Frag) (H : Hp) (R : Addr → Prop) : Nat → V → Prop
  | str {n : Nat} {z : Str} : Cl K H R n (.str z)
  | int {n : Nat} {i : Int} : Cl K H R n (.int i)
  | bl {n : Nat} {b : Bool} : Cl K H R n (.bl b)
  | tup {n : Nat} {a : Addr} {xs : List V} : SqT K H a xs → (∀ x ∈ xs, Cl K H R n x) → Cl K H R (n + 1) (.ref a)
  | lst {n : Nat} {a : Addr} {xs : List V} : R a → H a = some (.lst xs) → (∀ x ∈ xs, Cl K H R n x) → Cl K H R (n + 1) (.ref a)
/-- R holds lists alone, none of the module's -/
def Lists (H : Hp) (R : Addr → Prop) : Prop := ∀ b, R b → ∃ xs, H b = some (.lst xs)
/-- some of R's lists are empty now, all else is as it was -/
structure Chg (R : Addr → Prop) (H H' : Hp) : Prop where
  old : ∀ b o, ¬ R b → H b = some o → H' b = some o
  lst : ∀ b xs, R b → H b = some (.lst xs) → H' b = some (.lst xs) ∨ H' b = some (.lst [])
theorem Chg.refl (R : Addr → Prop) (H : Hp) : Chg R H H := ⟨fun _ _ _ e => e, fun _ _ _ e => .inl e⟩
theorem Chg.trans {R : Addr → Prop} {H H1 H2 : Hp} (a : Chg R H H1) (b : Chg R H1 H2) : Chg R H H2 := ⟨fun c o n e => b.old c o n (a.old c o n e), fun c xs r e => by
  rcases a.lst c xs r e with h | h
  · exact b.lst c xs r h
  · rcases b.lst c [] r h with h | h <;> exact .inr h⟩
theorem Chg.lists {R : Addr → Prop} {H H' : Hp} (l : Lists H R) (c : Chg R H H') : Lists H' R := fun b r => by
  obtain ⟨xs, e⟩ := l b r
  rcases c.lst b xs r e with h | h <;> exact ⟨_, h⟩
theorem Chg.same {R : Addr → Prop} {H H1 H2 : Hp} (a : Chg R H H1) (s : Same H1 H2) : Chg R H H2 := ⟨fun c o n e => s _ _ (a.old c o n e), fun c xs r e => (a.lst c xs r e).imp (s _ _) (s _ _)⟩
theorem Lists.same {R : Addr → Prop} {H H' : Hp} (l : Lists H R) (s : Same H H') : Lists H' R := fun b r => (l b r).imp fun xs e => s _ _ e
theorem Cl.chg {K : PySem.W.Frag} {R : Addr → Prop} {H H' : Hp} (l : Lists H R) (c : Chg R H H') {n : Nat} {v : V} (h : Cl K H R n v) : Cl K H' R n v := by
  induction h with
  | str => exact .str
  | int => exact .int
  | bl => exact .bl
  | tup h _ ih =>
    refine .tup ?_ ih
    have no : ∀ a o, H a = some o → (∀ xs, o ≠ .lst xs) → H' a = some o := fun a o e n => c.old a o (fun r => by
      obtain ⟨xs, e'⟩ := l a r
      rw [e] at e'
      exact n xs (Option.some.inj e')) e
    rcases h with (h | ⟨o, h⟩) | h
    · exact .inl (.inl (no _ _ h fun xs z => by cases z))
    · exact .inl (.inr ⟨o, no _ _ h fun xs z => by cases z⟩)
    · exact .inr h
  | lst r h _ ih =>
    rcases c.lst _ _ r h with h | h
    · exact .lst r h ih
    · exact .lst r h fun x hx => by cases hx
theorem chgT {K : PySem.W.Frag} {R : Addr → Prop} {H H' : Hp} (l : Lists H R) (c : Chg R H H') {a : Addr} {xs : List V} (h : SqT K H a xs) : SqT K H' a xs := by
  have no : ∀ a o, H a = some o → (∀ xs, o ≠ .lst xs) → H' a = some o := fun a o e n => c.old a o (fun r => by
    obtain ⟨xs, e'⟩ := l a r
    rw [e] at e'
    exact n xs (Option.some.inj e')) e
  rcases h with (h | ⟨o, h⟩) | h
  · exact .inl (.inl (no _ _ h fun xs z => by cases z))
  · exact .inl (.inr ⟨o, no _ _ h fun xs z => by cases z⟩)
  · exact .inr h
def spCl (K : PySem.W.Frag) (n : Nat) : Sp := fun vs H Q _ => ∃ (v : V) (R : Addr → Prop), vs = [v] ∧ Lists H R ∧ Cl K H R n v ∧ ∀ H', Chg R H H' → Q .non H'
theorem pi_or {X : Cx} {tg e : Expr} {A B : TI} (a : PI X tg e A) (b : PI X tg e B) : PI X tg e (fun σ H R => A σ H R ∨ B σ H R) := ⟨fun pins s σ H R I h => by
  rcases h with h | h
  · exact a.run pins s σ H R I h
  · exact b.run pins s σ H R I h⟩
theorem Chg.clear {R : Addr → Prop} {H : Hp} {a : Addr} (r : R a) : Chg R H (upd H a (.lst [])) := ⟨fun b o n e => by
  rw [upd_ne (fun z => n (by rw [z]; exact r))]
  exact e, fun b xs _ e => by
  by_cases z : b = a
  · rw [z, upd_same]
    exact .inr rfl
  · rw [upd_ne z]
    exact .inl e⟩
theorem any1 {K : PySem.W.Frag} {t c : Value} {r : List Value} (h : PySem.W.kitOne K t c = some true) : PySem.W.kitAny K t (c :: r) = some true := by
  simp only [PySem.W.kitAny, h]
theorem any0 {K : PySem.W.Frag} {t c : Value} {r : List Value} {b : Option Bool} (h : PySem.W.kitOne K t c = some false) (h2 : PySem.W.kitAny K t r = b) : PySem.W.kitAny K t (c :: r) = b := by
  simp only [PySem.W.kitAny, h, h2]
end Vt


set_option Elab.async false
set_option linter.all false
set_option maxRecDepth 100000
set_option maxHeartbeats 4000000
namespace Vt
open PySem PySem.Spec PyProof.Rows L2
/-! ### a term as data -/
def pairs : List Str → List PyData → List PyData
  | n :: ns, d :: ds => .tuple [.str n, d] :: pairs ns ds
  | _, _ => []
def Hd.form : Hd → List PyData → PyData
  | .var n, _ => .tuple [.str "var", .str n]
  | .int k, _ => .tuple [.str "int", .int k]
  | .bool b, _ => .tuple [.str "bool", .bool b]
  | .fn n, [d] => .tuple [.str "fun", .str n, d]
  | .app, [d, e] => .tuple [.str "app", d, e]
  | .lt n, [d, e] => .tuple [.str "let", .str n, d, e]
  | .rc n, [d, e] => .tuple [.str "rec", .str n, d, e]
  | .cond, [d, e, f] => .tuple [.str "if", d, e, f]
  | .tup, ds => .tuple [.str "tuple", .list ds]
  | .part k z, [d] => .tuple [.str "part", .int k, .int z, d]
  | .record ls, ds => .tuple [.str "record", .list (pairs ls ds)]
  | .field n, [d] => .tuple [.str "field", d, .str n]
  | .wth n, [d, e] => .tuple [.str "with", d, .str n, e]
  | _, _ => .none
mutual
def T.data : T → PyData
  | .node h ks => h.form (T.datas ks)
def T.datas : List T → List PyData
  | [] => []
  | t :: r => t.data :: T.datas r
end
theorem datas_dp {K : PySem.W.Frag} {H : Hp} : ∀ {xs : List V} {ts : List T}, xs.length = ts.length → (∀ (i : Nat) (v : V) (t : T), xs[i]? = some v → ts[i]? = some t → Dp K H v t.data) → DpAll K H xs (T.datas ts)
  | [], [], _, _ => .nil
  | [], t :: ts, h, _ => by simp at h
  | x :: xs, [], h, _ => by simp at h
  | x :: xs, t :: ts, h, f => .cons (f 0 x t rfl rfl) (datas_dp (by simpa using h) fun i v u a b => f (i + 1) v u (by simpa using a) (by simpa using b))
theorem pairs_dp {K : PySem.W.Frag} {H : Hp} : ∀ {bs : List Addr} {ls : List Str} {us : List V} {ts : List T}, bs.length = ts.length → ls.length = ts.length → us.length = ts.length → (∀ (i : Nat) (b : Addr) (n : Str) (u : V), bs[i]? = some b → ls[i]? = some n → us[i]? = some u → SqT K H b [.str n, u]) →
    (∀ (i : Nat) (u : V) (t : T), us[i]? = some u → ts[i]? = some t → Dp K H u t.data) → DpAll K H (bs.map V.ref) (pairs ls (T.datas ts))
  | [], [], [], [], _, _, _, _, _ => .nil
  | b :: bs, n :: ls, u :: us, t :: ts, h1, h2, h3, f, g => .cons (.tup (f 0 b n u rfl rfl rfl) (.cons (.str n) (.cons (g 0 u t rfl rfl) .nil)))
      (pairs_dp (by simpa using h1) (by simpa using h2) (by simpa using h3) (fun i b' n' u' a1 a2 a3 => f (i + 1) b' n' u' (by simpa using a1) (by simpa using a2) (by simpa using a3)) fun i u' t' a1 a2 => g (i + 1) u' t' (by simpa using a1) (by simpa using a2))
  | [], _ :: _, _, [], _, h, _, _, _ => by simp at h
  | [], _, _, _ :: _, h, _, _, _, _ => by simp at h
  | _ :: _, _, _, [], h, _, _, _, _ => by simp at h
  | _ :: _, [], _, _ :: _, _, h, _, _, _ => by simp at h
  | _ :: _, _ :: _, [], _ :: _, _, _, h, _, _ => by simp at h
  | [], [], _ :: _, [], _, _, h, _, _ => by simp at h
theorem Tm.dp {K : PySem.W.Frag} {H : Hp} {v : V} {t : T} (h : Tm K H v t) : Dp K H v t.data := by
  induction h with
  | var h => exact .tup h (.cons (.str _) (.cons (.str _) .nil))
  | int h => exact .tup h (.cons (.str _) (.cons (.int _) .nil))
  | bool h => exact .tup h (.cons (.str _) (.cons (.bl _) .nil))
  | fn h _ i => exact .tup h (.cons (.str _) (.cons (.str _) (.cons i .nil)))
  | app h _ _ i j => exact .tup h (.cons (.str _) (.cons i (.cons j .nil)))
  | lt h _ _ i j => exact .tup h (.cons (.str _) (.cons (.str _) (.cons i (.cons j .nil))))
  | rc h _ _ i j => exact .tup h (.cons (.str _) (.cons (.str _) (.cons i (.cons j .nil))))
  | cond h _ _ _ i j l => exact .tup h (.cons (.str _) (.cons i (.cons j (.cons l .nil))))
  | tup h h2 l1 _ i => exact .tup h (.cons (.str _) (.cons (.lst h2 (datas_dp l1 i)) .nil))
  | part h _ i => exact .tup h (.cons (.str _) (.cons (.int _) (.cons (.int _) (.cons i .nil))))
  | record h h2 l1 l2 l3 f _ i => exact .tup h (.cons (.str _) (.cons (.lst h2 (pairs_dp l1 l2 l3 f i)) .nil))
  | field h _ i => exact .tup h (.cons (.str _) (.cons i (.cons (.str _) .nil)))
  | wth h _ _ i j => exact .tup h (.cons (.str _) (.cons i (.cons (.str _) (.cons j .nil))))
end Vt


set_option Elab.async false
set_option linter.all false
set_option maxRecDepth 100000
set_option maxHeartbeats 4000000
namespace Vt
open PySem PySem.Spec PyProof.Rows L2
/-! ### how long the text of a term is -/
theorem tf_le : ∀ (ts : List Str) (k : Nat) (acc : Str), (textFrom k acc ts).length ≤ acc.length + piled ts
  | [], k, acc => Nat.le_refl _
  | t :: r, k, acc => by
    have h := tf_le r (k + 1) (acc ++ (if k > 0 then ", " else "" : String) ++ t)
    have e : (acc ++ (if k > 0 then ", " else "" : String) ++ t).length ≤ acc.length + 2 + t.length := by
      rw [strLen_append, strLen_append]
      have : ((if k > 0 then ", " else "" : String) : Str).length ≤ 2 := by split <;> decide +kernel
      omega
    rw [piled_cons]
    show (textFrom (k + 1) _ r).length ≤ _
    omega
theorem list_text (ts : List Str) : (listText ts).length ≤ piled ts + 2 := by
  have h := tf_le ts 0 "["
  have e1 : ((("[" : String) : Str)).length = 1 := rfl
  have e2 : ((("]" : String) : Str)).length = 1 := rfl
  unfold listText
  rw [strLen_append, e2]
  omega
theorem name_text {n : Str} (h : isName n) : (reprText n).length ≤ 82 := by
  have := StrLaws.reprText_len n fun c hc => by
    have := h.2.2 c hc
    omega
  have := h.2.1
  omega
/-- a text of at most this many signs, so deep at most -/
structure Tx (d : PyData) (k m : Nat) : Prop where
  sh : d.showable = true
  dp : d.depth ≤ m
  sz : d.shown.length ≤ k
  lay : d.canLay0 = true
theorem Tx.name {n : Str} (h : isName n) : Tx (.str n) 82 0 := ⟨rfl, Nat.le_refl _, name_text h, by simp only [PyData.canLay0]; exact h.ok⟩
/-- many of them: all together, with two signs more for each -/
structure Txs (ds : List PyData) (k m : Nat) : Prop where
  sh : PyData.showableAll ds = true
  dp : PyData.depthAll ds ≤ m
  sz : piled (PyData.shownAll ds) ≤ k
  lay : PyData.canLayAll0 ds = true
theorem Txs.nil {m : Nat} : Txs [] 0 m := ⟨by simp [PyData.showableAll], by simp [PyData.depthAll], by simp [PyData.shownAll, piled], by simp [PyData.canLayAll0]⟩
theorem Txs.cons {d : PyData} {ds : List PyData} {k m k' : Nat} (a : Tx d k m) (b : Txs ds k' m) : Txs (d :: ds) (k + 2 + k') m :=
  ⟨by simp only [PyData.showableAll, a.sh, b.sh, Bool.and_self], by simp only [PyData.depthAll]; have := a.dp; have := b.dp; omega, by simp only [PyData.shownAll, piled_cons]; have := a.sz; have := b.sz; omega, by simp only [PyData.canLayAll0, a.lay, b.lay, Bool.and_self]⟩
theorem Tx.cons {d : PyData} {ds : List PyData} {k m k' : Nat} (a : Tx d k m) (b : Txs ds k' m) : Txs (d :: ds) (k + 2 + k') m := Txs.cons a b
theorem Tx.mono {d : PyData} {k m k' m' : Nat} (a : Tx d k m) (h : k ≤ k') (h2 : m ≤ m') : Tx d k' m' := ⟨a.sh, Nat.le_trans a.dp h2, Nat.le_trans a.sz h, a.lay⟩
theorem Txs.tup {ds : List PyData} {k m : Nat} (a : Txs ds k m) : Tx (.tuple ds) (k + 2) (m + 1) :=
  ⟨by simp only [PyData.showable]; exact a.sh, by simp only [PyData.depth]; have := a.dp; omega, by simp only [PyData.shown]; exact Nat.le_trans (fmt_text _) (Nat.add_le_add_right a.sz 2), by simp only [PyData.canLay0]; exact a.lay⟩
theorem Txs.lst {ds : List PyData} {k m : Nat} (a : Txs ds k m) : Tx (.list ds) (k + 2) (m + 1) :=
  ⟨by simp only [PyData.showable]; exact a.sh, by simp only [PyData.depth]; have := a.dp; omega, by simp only [PyData.shown]; exact Nat.le_trans (list_text _) (Nat.add_le_add_right a.sz 2), by simp only [PyData.canLay0]; exact a.lay⟩
theorem tx_word (w : Str) (h : (reprText w).length ≤ 10 ∧ PyData.strOk w = true) {m : Nat} : Tx (.str w) 10 m := ⟨rfl, Nat.zero_le _, h.1, by simp only [PyData.canLay0]; exact h.2⟩
theorem tx_int {k : Int} (h : -(10 ^ 30) ≤ k ∧ k ≤ 10 ^ 30) {m : Nat} : Tx (.int k) 40 m := by
  have a : k.natAbs < 10 ^ 31 := by omega
  refine ⟨decide_eq_true ?_, Nat.zero_le _, ?_, by simp only [PyData.canLay0]⟩
  · have b : k.natAbs < 2 ^ 110 := Nat.lt_of_lt_of_le a (by decide)
    by_cases z : k.natAbs = 0
    · rw [z]; decide
    · have := (Nat.log2_lt z).mpr b
      omega
  · have := int_text_length_le10 (k := 31) (by decide) a
    simp only [PyData.shown]
    rw [show ((toString k : String) : Str).length = (toString k : String).length from PySem.ofString_length _]
    omega
theorem tx_small {k : Int} (h : 0 ≤ k ∧ k < 10) {m : Nat} : Tx (.int k) 40 m := tx_int (by omega)
theorem datas_tx {m : Nat} : ∀ {ts : List T}, (∀ t ∈ ts, Tx t.data (400 * t.size - 200) m) → Txs (T.datas ts) (400 * T.sizes ts) m
  | [], _ => Txs.nil
  | t :: r, h => by
    have a := h t List.mem_cons_self
    have b := datas_tx fun u hu => h u (List.mem_cons_of_mem _ hu)
    have p : 1 ≤ t.size := by cases t; simp only [T.size]; omega
    have c := Txs.cons a b
    refine ⟨c.sh, c.dp, Nat.le_trans c.sz ?_, c.lay⟩
    simp only [T.sizes]
    omega
theorem pairs_tx {m : Nat} : ∀ {ls : List Str} {ts : List T}, (∀ n ∈ ls, isName n) → ls.length = ts.length → (∀ t ∈ ts, Tx t.data (400 * t.size - 200) m) → Txs (pairs ls (T.datas ts)) (400 * T.sizes ts) (m + 1)
  | [], [], _, _, _ => Txs.nil
  | [], t :: r, _, h, _ => by simp at h
  | n :: ls, [], _, h, _ => by simp at h
  | n :: ls, t :: r, hn, h, f => by
    have a := f t List.mem_cons_self
    have b := pairs_tx (fun u hu => hn u (List.mem_cons_of_mem _ hu)) (by simpa using h) fun u hu => f u (List.mem_cons_of_mem _ hu)
    have p : 1 ≤ t.size := by cases t; simp only [T.size]; omega
    have c := Txs.cons ((Txs.cons ((Tx.name (hn n List.mem_cons_self)).mono (Nat.le_refl _) (Nat.zero_le m)) (Txs.cons a Txs.nil)).tup) b
    refine ⟨c.sh, c.dp, Nat.le_trans c.sz ?_, c.lay⟩
    simp only [T.sizes]
    omega
theorem data_tx : ∀ (n : Nat) (t : T), t.size ≤ n → Wt t → Tx t.data (400 * t.size - 200) (3 * t.deep) := by
  intro n
  induction n with
  | zero =>
    intro t h
    cases t
    simp only [T.size] at h
    omega
  | succ n ih =>
    intro t hs w
    cases t with
    | node h ks =>
      have kid : ∀ k ∈ ks, Tx k.data (400 * k.size - 200) (3 * T.deeps ks) := fun k hk => by
        have h1 := size_kid hk
        have h2 := deep_kid hk
        simp only [T.size] at hs
        exact (ih k (by omega) (w.kid hk)).mono (Nat.le_refl _) (by omega)
      have hd := w.hd
      have all := datas_tx kid
      have nm : ∀ {n : Str} {m : Nat}, isName n → Tx (.str n) 82 m := fun q => (Tx.name q).mono (Nat.le_refl _) (Nat.zero_le _)
      simp only [T.data, T.size, T.deep]
      cases h with
      | var m => exact ((tx_word "var" (by decide +kernel) (m := 0)).cons ((nm hd.2).cons .nil)).tup.mono (by omega) (by omega)
      | int k => exact ((tx_word "int" (by decide +kernel) (m := 0)).cons ((tx_int hd.2).cons .nil)).tup.mono (by omega) (by omega)
      | bool b => exact ((tx_word "bool" (by decide +kernel) (m := 0)).cons ((show Tx (.bool b) 5 0 from ⟨rfl, Nat.le_refl _, by cases b <;> decide +kernel, by simp only [PyData.canLay0]⟩).cons .nil)).tup.mono (by omega) (by omega)
      | tup => exact ((tx_word "tuple" (by decide +kernel)).cons (all.lst.cons .nil)).tup.mono (by omega) (by omega)
      | record ls => exact ((tx_word "record" (by decide +kernel)).cons ((pairs_tx hd.2.2.1 hd.1 kid).lst.cons .nil)).tup.mono (by omega) (by omega)
      | fn m =>
        match ks, hd.1, kid with
        | [t], _, kid => 
          exact (((tx_word "fun" (by decide +kernel)).cons ((nm hd.2).cons ((kid _ (by simp)).cons .nil)))).tup.mono (by simp only [T.sizes]; omega) (by omega)
      | app =>
        match ks, hd, kid with
        | [t, r], _, kid => 
          exact (((tx_word "app" (by decide +kernel)).cons ((kid _ (by simp)).cons ((kid _ (by simp)).cons .nil)))).tup.mono (by simp only [T.sizes]; omega) (by omega)
      | lt m =>
        match ks, hd.1, kid with
        | [t, r], _, kid => 
          exact (((tx_word "let" (by decide +kernel)).cons ((nm hd.2).cons ((kid _ (by simp)).cons ((kid _ (by simp)).cons .nil))))).tup.mono (by simp only [T.sizes]; omega) (by omega)
      | rc m =>
        match ks, hd.1, kid with
        | [t, r], _, kid => 
          exact (((tx_word "rec" (by decide +kernel)).cons ((nm hd.2).cons ((kid _ (by simp)).cons ((kid _ (by simp)).cons .nil))))).tup.mono (by simp only [T.sizes]; omega) (by omega)
      | cond =>
        match ks, hd, kid with
        | [t, r, q], _, kid => 
          exact (((tx_word "if" (by decide +kernel)).cons ((kid _ (by simp)).cons ((kid _ (by simp)).cons ((kid _ (by simp)).cons .nil))))).tup.mono (by simp only [T.sizes]; omega) (by omega)
      | part i z =>
        match ks, hd.1, kid with
        | [t], _, kid => 
          obtain ⟨_, d1, d2, d3, d4⟩ := hd
          exact (((tx_word "part" (by decide +kernel)).cons ((tx_int ⟨by omega, by omega⟩).cons ((tx_int ⟨by omega, by omega⟩).cons ((kid _ (by simp)).cons .nil))))).tup.mono (by simp only [T.sizes]; omega) (by omega)
      | field m =>
        match ks, hd.1, kid with
        | [t], _, kid => 
          exact (((tx_word "field" (by decide +kernel)).cons ((kid _ (by simp)).cons ((nm hd.2).cons .nil)))).tup.mono (by simp only [T.sizes]; omega) (by omega)
      | wth m =>
        match ks, hd.1, kid with
        | [t, r], _, kid => 
          exact (((tx_word "with" (by decide +kernel)).cons ((kid _ (by simp)).cons ((nm hd.2).cons ((kid _ (by simp)).cons .nil))))).tup.mono (by simp only [T.sizes]; omega) (by omega)
mutual
theorem eqv_self : ∀ d : PyData, d.canLay0 = true → PyData.eqv d d = true
  | .none, _ => by simp only [PyData.eqv]
  | .bool b, _ => by simp only [PyData.eqv, beq_self_eq_true]
  | .int i, _ => by simp only [PyData.eqv, beq_self_eq_true]
  | .str x, _ => by simp only [PyData.eqv, beq_self_eq_true]
  | .list xs, h => by simp only [PyData.eqv]; exact eqvs_self xs (by simpa only [PyData.canLay0] using h)
  | .tuple xs, h => by simp only [PyData.eqv]; exact eqvs_self xs (by simpa only [PyData.canLay0] using h)
  | .dict _, h => by simp [PyData.canLay0] at h
theorem eqvs_self : ∀ ds : List PyData, PyData.canLayAll0 ds = true → PyData.eqvAll ds ds = true
  | [], _ => by simp only [PyData.eqvAll]
  | d :: r, h => by
    simp only [PyData.canLayAll0, Bool.and_eq_true] at h
    simp only [PyData.eqvAll, eqv_self d h.1, eqvs_self r h.2, Bool.and_self]
end
theorem term_ne {K : PySem.W.Frag} {H : Hp} {u v : V} {t : T} {Q : VK} (w : Wt t) (hd : t.deep ≤ 20) (a : Tm K H u t) (b : Tm K H v t) (q : Q (.bl false) H) : rNeD K u v H Q := by
  have x := data_tx _ t (Nat.le_refl _) w
  have sh : SeqAt.shaped t.data = true := by
    show (t.data.canLay0 && decide (t.data.depth ≤ 64)) = true
    rw [Bool.and_eq_true]
    exact ⟨x.lay, decide_eq_true (Nat.le_trans x.dp (by omega))⟩
  refine ⟨t.data, t.data, a.dp, b.dp, sh, sh, ?_⟩
  rw [eqv_self _ x.lay]
  exact q
end Vt


set_option Elab.async false
set_option linter.all false
set_option maxRecDepth 100000
set_option maxHeartbeats 4000000
namespace Vt
open PySem PySem.Spec PyProof.Rows L2
/-! ### a def that wants to know that no text of a value is being made around it -/
structure FnG (P : Program) (w : World) (K : PySem.W.Frag) (mg : Str → Option Value) (base : Heap) (CX : CXT) (k : Nat) (f : Addr) (fd : FuncData) (ps : List Str) (sp : Sp) : Prop where
  size : ∀ vs H Q E, sp vs H Q E → vs.length = ps.length
  go : ∀ (A : Around) (outer : List Env) (s : Shared) (H : Hp) (us : List Value) (vs : List V) (Q : VK) (E : XK) (args : Args), A.guards = some [] → Room k A → Env0 P w K mg base A outer s H →
    BindsTo s fd args (ps.zip us) → Vals vs us → sp vs H Q E → codeAny (model P w) A (.call (.ref f) args) (CR CX outer P w H s Q E) s
section
variable {P : Program} {w : World} {K : PySem.W.Frag} {mg : Str → Option Value} {base : Heap}
theorem fnG {x : Str} {st : Stmt} {f : Addr} {fd : FuncData} {N ps : List Str} {k : Nat} {sp : Sp} (F : Fun K x x st f fd) (S : FnScope N ps (defScope st)) (size : ∀ vs H Q E, sp vs H Q E → vs.length = ps.length)
    (bd : ∀ (cdv : Value) (A : Around) (outer : List Env) (s : Shared) (H : Hp) (vs : List V) (Q : VK) (E : XK), (A.deeper (envOfC x (defScope st) s.heap.objs.size f cdv)).guards = some [] → Room k (A.deeper (envOfC x (defScope st) s.heap.objs.size f cdv)) → sp vs H Q E →
      ∃ t, PSs (cxOf CX0 P w K mg base N x (defScope st) f cdv A outer s H E).nox (defBody st) t ∧ t { nx := fun _ H' => Q .non H', rt := Q } (start N vs) H) : FnG P w K mg base CX0 (k + 1) f fd ps sp := by
  obtain ⟨oc, od, kV, doc, pm, an, cdv, ct, osl, rfl, lk, cdK⟩ := F.ex
  refine ⟨size, fun A outer s H us vs Q E args gd room e0 bnd vals wish => ?_⟩
  have old : ∀ b o, base.get? b = some o → s.heap.get? b = some o := fun b o e => (e0.bs b o e).1
  have inK := e0.mod.kin.keeps old
  have kinds : ∀ y ∈ ps.zip us, (defScope st).names.lookup y.1 = some .local ∨ ((defScope st).names.lookup y.1 = some .cell ∧ ((cellsFrom (s.heap.objs.size + 1) (defScope st).names []).lookup y.1).isSome = true) := by
    intro y hy
    cases S.par y.1 (List.of_mem_zip hy).1 with
    | inl q => exact .inl q
    | inr q => exact .inr ⟨q, PySem.W.cellsFrom_some _ _ _ (.inl q)⟩
  obtain ⟨t, hp, ht⟩ := bd cdv A outer s H vs Q E gd (room.deeper _) wish
  refine codeAny_call_function room.depth (inK _ _ lk) rfl S.co S.gen rfl (PySem.W.codeRec_of inK cdK) (bnd _ _ _ _ (wpAny_newFunctionEnv_cells S.kind kinds fun env henv s1 call => ?_))
  subst henv
  refine ⟨(e0.mod.nolimit.keeps old).keeps call.toInCall.keep, codeAny_func (wpAny_mono (hp.nox.run [] s1 (start N vs) H _ (inv_start S room.hd e0 (size _ _ _ _ wish) vals call) ht) ?_ fun _ _ z => z)⟩
  intro fl s' out
  cases fl with
  | next =>
    obtain ⟨_, H', J, q⟩ := out
    exact ⟨V.non, H', J.os, J.bare, J.base, J.hok, (rfl : RelV V.non Value.none), q⟩
  | ret u =>
    obtain ⟨v, _, H', J, rv, q⟩ := out
    exact ⟨v, H', J.os, J.bare, J.base, J.hok, rv, q⟩
  | brk =>
    obtain ⟨_, _, _, q⟩ := out
    cases q
  | cont =>
    obtain ⟨_, _, _, q⟩ := out
    cases q
end
section
variable {X : Cx} {CX : CXT} {k : Nat} {f : Addr} {fd : FuncData} {ps : List Str} {sp : Sp} {E : XK} {x : Str} {p pos : Pos} {e : Expr} {es : List Expr} {t : TA}
/-- the call of such a def -/
theorem pe_callG (F : FnG X.prog X.w X.K X.mg X.base CX k f fd ps sp) (hgd : X.A.guards = some []) (hr : Room k X.A) (hg : Gl X x) (hm : X.mg x = some (.ref f)) (hk : PySem.W.keepIn X.K (.ref f) = true) (hb : Binds X.K fd ps []) (hx : Passes CX X E)
    (ha : PA X (e :: es) t) (hdb : (x == ("__debug__" : Str)) = false := by decide) (he : starEach (e :: es) X.env = (false, eval e X.env) :: starEach es X.env := by rfl) (hpl : (backTo pos (starEach es X.env)).any (·.1) = false := by rfl) :
    PE X (.Call (.Name x p) (e :: es) [] pos) (tCall sp [] E t) := by
  refine ⟨fun pins s σ H Q I h => wpAny_Call_Name_kw (ld_glob I hg hm (PySem.W.callWith_K (h₀ := X.base) I.ok.mod.kin hk (thn (ha.run pos pins s σ H _ I h) fun us s1 out => ?_) he hpl) hdb)⟩
  obtain ⟨vs, H1, I1, r, q⟩ := out
  rw [List.append_nil] at q
  have b := hb s1 us I1.kIn (by rw [List.append_nil, ← r.length]; exact F.size _ _ _ _ q)
  rw [List.append_nil] at b
  refine ⟨I1.kIn, wpAny_call (codeAny_mono (F.go X.A X.stack s1 H1 us vs Q E ⟨us, []⟩ hgd hr I1.env0 b r q) fun r s' out => ?_)⟩
  match r, out with
  | .error e, z => exact hx pins σ H1 s1 e s' I1 z
  | .ok (.ret u), z => exact I1.after z
  | .ok .next, z => exact z.elim
  | .ok .brk, z => exact z.elim
  | .ok .cont, z => exact z.elim
end
/-! ### the end: the law is called with the script -/
/-- what is tracked of the script: nothing where the module holds it -/
def scr (K : PySem.W.Frag) (a : Addr) (o : Obj) (ns : List Int) : Hp := fun b => if b = a ∧ K.lookup a = none then some (.frz o (.lst (ns.map V.int))) else none
theorem scr_some {K : PySem.W.Frag} {a b : Addr} {o : Obj} {ns : List Int} {u : HO} (h : scr K a o ns b = some u) : b = a ∧ K.lookup a = none ∧ u = .frz o (.lst (ns.map V.int)) := by
  by_cases c : b = a ∧ K.lookup a = none
  · have h' := (if_pos c).symm.trans h
    cases h'
    exact ⟨c.1, c.2, rfl⟩
  · have h' := (if_neg c).symm.trans h
    cases h'
theorem scr_none {K : PySem.W.Frag} {a b : Addr} {o : Obj} {ns : List Int} (h : b ≠ a ∨ K.lookup a ≠ none) : scr K a o ns b = none := if_neg fun ⟨c1, c2⟩ => h.elim (fun z => z c1) fun z => z c2
theorem callG {P : Program} {w : World} {K : PySem.W.Frag} {mg mb : Str → Option Value} {k : Nat} {fa a : Addr} {fd : FuncData} {x : Str} {sp : Sp} {s₁ : Shared} {vs : List Value} {ns : List Int} (KX : K.In s₁.heap) (glob : s₁.heap.Ns mainGlobals mg) (blt : s₁.heap.Ns builtinsNs mb)
    (boot : ∀ x : Str, x ≠ "__name__" → mb x = bootBuiltins x) (lim : s₁.heap.NoLimit) (gens : s₁.gens = #[]) (obj : s₁.heap.get? a = some { cls := .type "list", data := .seq vs.toArray }) (intV : IntsAre vs ns) (len : ns.length ≤ sizeLine) (room : Room k callerA)
    (F : ∀ base : Heap, K.In base → base.Ns mainGlobals mg → FnG P w K mg base CX0 k fa fd [x] sp) (bnd : ∀ (s : Shared) (u : Value), BindsTo s fd ⟨[u], []⟩ [(x, u)])
    (wish : ∀ H : Hp, Only H → SqL K H a (ns.map V.int) → sp [.ref a] H (fun v _ => v = .bl true) fun _ _ _ => False) :
    codeAny (model P w) callerA (.call (.ref fa) ⟨[.ref a], []⟩) (fun r s' => r = .ok (.ret (.bool true)) ∧ OldK s₁.heap s'.heap ∧ s'.os = s₁.os ∧ AllBare s'.gens) s₁ := by
  have numV := vals_ints intV
  have lenV : (ns.map V.int).length ≤ sizeLine := by rw [List.length_map]; exact len
  have getH : ∀ {b : Addr} {u : HO}, scr K a _ ns b = some u → b = a ∧ K.lookup a = none ∧ u = .frz { cls := .type "list", data := .seq vs.toArray } (.lst (ns.map V.int)) := fun h => scr_some h
  have only : Only (scr K a { cls := .type "list", data := .seq vs.toArray } ns) := fun b => by
    cases q : scr K a { cls := .type "list", data := .seq vs.toArray } ns b with
    | none => exact .inl rfl
    | some u => obtain ⟨_, _, e⟩ := getH q; exact .inr ⟨_, _, by rw [e]⟩
  have hok : HOk P w (scr K a { cls := .type "list", data := .seq vs.toArray } ns) s₁.heap := fun b u q => by
    obtain ⟨rfl, _, rfl⟩ := getH q
    exact ⟨obj, lenV, vs, _, numV, obj⟩
  have seq : SqL K (scr K a { cls := .type "list", data := .seq vs.toArray } ns) a (ns.map V.int) := by
    cases q : K.lookup a with
    | none => exact .inl (.inr ⟨_, if_pos ⟨rfl, q⟩⟩)
    | some o =>
      have e := KX a o q
      rw [obj] at e
      cases e
      exact .inr ⟨_, vs.toArray, _, q, rfl, rfl, rfl, by rw [List.size_toArray, ← numV.length]; exact lenV, by simpa using numV⟩
  generalize scr K a { cls := .type "list", data := .seq vs.toArray } ns = H at *
  have free : ∀ {b : Addr} {o : Obj} {es : Array DictEntry} {ep : Nat}, s₁.heap.get? b = some o → o.data = .dict es ep → H b = none := fun {b o es ep} e d => by
    cases q : H b with
    | none => rfl
    | some u =>
      obtain ⟨rfl, _, _⟩ := getH q
      rw [obj] at e
      cases e
      cases (show Data.seq vs.toArray _ = Data.dict es ep from d)
  have spaces : ∀ {b : Addr} {m : Str → Option Value}, s₁.heap.Ns b m → (hidT s₁.heap H).Ns b m := fun {b m} ⟨o, es, ep, e, d, r⟩ => ⟨o, es, ep, hidT_get e (free e d), d, r⟩
  have inB : K.In (hidT s₁.heap H) := fun b o e => hidT_get (KX b o e) (by
    cases q : H b with
    | none => rfl
    | some u =>
      obtain ⟨rfl, z, _⟩ := getH q
      rw [z] at e
      cases e)
  have md : Mod K mg (hidT s₁.heap H) := ⟨inB, spaces glob, ⟨mb, spaces blt, boot⟩, (fun ⟨mc, h1, h2⟩ => ⟨mc, spaces h1, h2⟩) lim⟩
  have e0 : Env0 P w K mg (hidT s₁.heap H) callerA [] s₁ H := ⟨rfl, md, fun b o e => of_hidT e, Nat.le_of_eq (hidT_size _ _), trivial, fun b hb => (nomatch (show b ∈ ([] : List Addr) from hb)), hok, .of_eq gens⟩
  refine codeAny_mono ((F _ inB (spaces glob)).go callerA [] s₁ H [.ref a] [.ref a] _ _ ⟨[.ref a], []⟩ rfl room e0 (bnd s₁ (.ref a)) (.cons rfl .nil) (wish H only seq)) fun r s' out => ?_
  match r, out with
  | .error e, z => exact z.elim
  | .ok .next, z => exact z.elim
  | .ok .brk, z => exact z.elim
  | .ok .cont, z => exact z.elim
  | .ok (.ret u), ⟨v, H', os, bare, un, hok', rv, q⟩ =>
    cases (show v = .bl true from q)
    obtain rfl : u = Value.bool true := rv
    refine ⟨rfl, OldK.of_keep fun b o e => ?_, os, bare⟩
    cases q : H b with
    | none => exact un.keep b o e q (fun z => nomatch (show b ∈ ([] : List Addr) from z)) (by simp)
    | some u =>
      obtain ⟨rfl, _, rfl⟩ := getH q
      have e2 := (hok' b _ (un.frzs b _ _ q)).1
      rw [obj] at e
      cases e
      exact e2
theorem walkG {l : PySem.W.OpenLaw} {n k : Nat} {q : Program} {loose : List Str} {XP : (Str → Option Value) → Heap → Prop} {YP : World → Heap → Prop} {d : DefRec} {K : Params → PySem.W.Frag} {sp : PySem.W.Frag → Sp} {x : Str} (hn : l.most = some n) (hn2 : n ≤ sizeLine) (hdf : d.params.defaults = []) (hr : Room k callerA)
    (hY : ∀ (w : World) (h : Heap), YP w h → (K w.params).In h)
    (F : ∀ (w : World) (mg : Str → Option Value) (fa : Addr) (h : Heap), (K w.params).In h → h.Ns mainGlobals mg → mg d.name = some (.ref fa) →
      ∃ fd : FuncData, (∀ (s : Shared) (u : Value), BindsTo s fd ⟨[u], []⟩ [(x, u)]) ∧ ∀ base : Heap, (K w.params).In base → base.Ns mainGlobals mg → FnG l.prog w (K w.params) mg base CX0 k fa fd [x] (sp (K w.params)))
    (hsp : ∀ (K : PySem.W.Frag) (H : Hp) (a : Addr) (ns : List Int), ns.length ≤ n → Only H → SqL K H a (ns.map V.int) → sp K [.ref a] H (fun v _ => v = .bl true) fun _ _ _ => False) :
    PySem.W.WalkO q loose XP YP l.row.toRowW d [] (fun f vs => PySem.call f vs) :=
  Att.attach_call hn hdf fun w s₀ s₁ mg mb fa o pm cd doc a vs ns G Y ho hd hcd hmg hobj hints hlen hg =>
    (fun ⟨fd, hb, hF⟩ => callG (hY w _ Y) G.T.g G.T.b G.T.builtins G.T.nolimit hg hobj hints (Nat.le_trans hlen hn2) hr hF hb fun H hO hS => hsp _ H a ns hlen hO hS) (F w mg fa _ (hY w _ Y) G.T.g hmg)
end Vt


set_option Elab.async false
set_option linter.all false
set_option maxRecDepth 100000
set_option maxHeartbeats 4000000
namespace Vt
open PySem PySem.Spec PyProof.Rows L2
/-! ### a try whose first clause, one with a name, always takes the exception; other clauses stand behind it -/
/-- behind the suite the clause's name means nothing -/
def bare (i : Nat) (D : Ends) : Ends := { nx := fun (σ : L2.St) H => D.nx (σ.set i none) H, rt := D.rt, bk := fun (σ : L2.St) H => D.bk (σ.set i none) H, ct := fun (σ : L2.St) H => D.ct (σ.set i none) H }
def wFirst (K : PySem.W.Frag) (c : Value) (i : Nat) (ts : Addr → Value → Option Addr → TS) (D : Ends) : WX := fun (cls : Value) (d : Option Addr) (σ : L2.St) (H : Hp) =>
  PySem.W.exmOne K cls c = some true ∧ ∀ a, H a = none → ts a cls d (bare i D) (σ.set i (some (.ref a))) H
section
variable {X : Cx} {x n : Str} {c : Value} {i : Nat} {body suite : List Stmt} {b₀ : Stmt} {np pos pos' : Pos} {tb : WX → TS} {ts : Addr → Value → Option Addr → TS} {hds : List ExceptHandler}
theorem ps_try_first (stk : X.stack = X.env :: X.outer) (fr : X.env.frame = some X.env.locals) (nd : X.N.Nodup) (hi : X.N[i]? = some n) (loc : X.env.kindOf n = some .local) (cl : Names X x c)
    (hb : ∀ (W : WX) (pn : List (Addr × Obj)) (xe : Value → Shared → Prop), Takes (X.tr pn xe) W → PassesOwn (model X.prog X.w) X.A X.env xe → PSs (X.tr pn xe) body (tb W))
    (su : ∀ (a : Addr) (oe : Obj) (cls : Value) (d : Option Addr) (pn : List (Addr × Obj)), Zc cls d oe → (∃ vs, oe.data = .fields vs) → PSs (X.suite a ((a, oe) :: pn)) (b₀ :: suite) (ts a cls d)) :
    PS X (.Try body (.ExceptHandler (some (.Name x np)) (some n) (b₀ :: suite) pos' :: hds) [] [] pos) (fun D σ H => tb (wFirst X.K c i ts D) D σ H) := by
  refine ⟨fun pins s σ H D I h => wpAny_Try_except ?_⟩
  have ok := I.ok
  have frames : X.A.frames = some (X.env :: X.outer) := by rw [ok.frames, stk]
  refine wpAny_mono ((hb (wFirst X.K c i ts D) (X.pn ++ pins) (fun e s₁ => wpAny (model X.prog X.w) X.A (noteFrame e X.env) (fun _ s₂ => wpAny (model X.prog X.w) X.A (setFlight e none) (fun _ s₃ => wpAny (model X.prog X.w) X.A (handleBy e X.env (.ExceptHandler (some (.Name x np)) (some n) (b₀ :: suite) pos' :: hds)) (SP X pins D) X.xe s₃) X.xe s₂) X.xe s₁)
    (fun u s' caught => ?_) PassesOwn.looking).run [] s σ H D (I.toTry _) h) (fun f s1 out => ?_) fun _ _ z => z
  · obtain ⟨a, B, sI, pins', σ', H', cls, d, rfl, J0, nb, up, sky, na, os, ag, takes, go⟩ := caught
    have J := J0.ofTry ok
    rw [stk] at sky
    refine Sky.land Zc.steady frames fr sky fun h3 fl3 up3 => ?_
    have J3 : Inv X pins σ' H' { s' with heap := h3 } := J.landed nb fl3.1 (up.trans up3) os ag
    obtain ⟨o3, vs3, at3, z3, dat3⟩ := fl3.there
    have out : a ∉ frs (X.env :: X.outer) := fun hm => by
      obtain ⟨_, o', e', nof⟩ := fl3.2.2.1.mem hm
      rw [at3] at e'
      cases e'
      exact nof _ dat3
    have outL : a ≠ X.env.locals := fun z => out (List.mem_filterMap.mpr ⟨X.env, List.mem_cons_self, by rw [fr, z]⟩)
    have outF : a ∉ X.fs := fun hm => (fun ⟨e, he, q⟩ => out (List.mem_filterMap.mpr ⟨e, List.mem_cons_of_mem _ he, q⟩)) (List.mem_filterMap.mp hm)
    have S3 := J3.suite at3 dat3 na outL outF
    have kind : PySem.W.Looks (model X.prog X.w) h3 (typeOf (.ref a)) cls := fun A Q E s k q => wpAny_typeOf_ref (k _ _ at3) (by rw [z3.1]; exact q)
    have fits := PySem.W.exm_one (M := model X.prog X.w) J3.kIn kind takes
    have name : ∀ {Q E : Value → Shared → Prop}, Q c { s' with heap := h3 } → wpAny (model X.prog X.w) (X.A.mark (some (.ref a))) (eval (.Name x np) X.env) Q E { s' with heap := h3 } := fun {Q E} q => by
      rcases cl with ⟨hg, hd, hm | ⟨hm, hv, hnn⟩⟩
      · exact ld_glob (X := X.suite a ((a, o3) :: (X.pn ++ pins))) S3 hg hm q hd
      · exact ld_blt (X := X.suite a ((a, o3) :: (X.pn ++ pins))) S3 hg hm hv q hnn hd
    refine wpAny_handleBy_cons (codeAny_handlers_test (name (fits.here (codeAny_handlers_suite_as ?_)))) (fun q => nomatch q)
    refine HandSPX.lands_againZ fl3 fun h4 fl4 up4 => ?_
    have J4 : Inv X pins σ' H' { s' with heap := h4 } := J.landed nb fl4.1 ((up.trans up3).trans up4) os ag
    obtain ⟨o4, vs4, at4, z4, dat4⟩ := fl4.there
    refine store_ok (X := X.suite a ((a, o4) :: (X.pn ++ pins))) (v := .ref a) (J4.suite at4 dat4 na outL outF) nd hi (.inl loc) rfl (fun s5 S5 => ?_) (.inr loc)
    refine wpAny_mono ((su a o4 cls d (X.pn ++ pins) z4 ⟨_, dat4⟩).run [] s5 _ H' _ S5 (go a na)) (fun f s6 out6 => ?_) fun _ _ z => z.elim
    match f, out6 with
    | .next, ⟨_, _, S6, q6⟩ => exact gone_ok (S6.unsuite ok) nd hi loc fun s7 J7 => ⟨_, _, J7, q6⟩
    | .brk, ⟨_, _, S6, q6⟩ => exact gone_ok (S6.unsuite ok) nd hi loc fun s7 J7 => ⟨_, _, J7, q6⟩
    | .cont, ⟨_, _, S6, q6⟩ => exact gone_ok (S6.unsuite ok) nd hi loc fun s7 J7 => ⟨_, _, J7, q6⟩
    | .ret u, ⟨_, _, _, S6, r6, q6⟩ => exact gone_ok (S6.unsuite ok) nd hi loc fun s7 J7 => ⟨_, _, _, J7, r6, q6⟩
  · match f, out with
    | .next, ⟨_, _, J, q⟩ => exact wpAny_execs_nil ⟨_, _, J.ofTry ok, q⟩
    | .brk, ⟨_, _, J, q⟩ => exact ⟨_, _, J.ofTry ok, q⟩
    | .cont, ⟨_, _, J, q⟩ => exact ⟨_, _, J.ofTry ok, q⟩
    | .ret u, ⟨_, _, _, J, r, q⟩ => exact ⟨_, _, _, J.ofTry ok, r, q⟩
end
end Vt


set_option Elab.async false
set_option linter.all false
set_option maxRecDepth 100000
set_option maxHeartbeats 4000000
namespace Vt
open PySem PySem.Spec PyProof.Rows L2
open PySem.SeqAt
/-! ### a tuple is no dict -/
theorem tup_declines_dict (l b : Addr) (its : Array Value) (n : Nat) (dd dd2 : Option Addr) (sl sl2 : Array (Option Value)) (es : Array DictEntry) (ep : Nat) :
    Meets (Builtin.«tuple.__eq__» ⟨[.ref l, .ref b], []⟩) (fun _ R s => s.heap.get? l = some { cls := .type "tuple", dict := dd, data := .seq its n, slots := sl } ∧ s.heap.get? b = some { cls := .type "dict", dict := dd2, data := .dict es ep, slots := sl2 } ∧ R (.ok (.ret .notImplemented)) s) :=
  .of_wp fun prog w A R s h => by
    obtain ⟨hp, g, d, tk, os⟩ := s
    obtain ⟨hl, hb, h⟩ := h
    have f1 := PySem.F.sub_dict_tuple
    wp_walk using wpAny_loadPart' hl, wpAny_loadPart' hb
    exact ⟨_, rfl, h⟩
theorem dict_declines_tup (l b : Addr) (its : Array Value) (n : Nat) (dd dd2 : Option Addr) (sl sl2 : Array (Option Value)) (es : Array DictEntry) (ep : Nat) :
    Meets (Builtin.«dict.__eq__» ⟨[.ref b, .ref l], []⟩) (fun _ R s => s.heap.get? l = some { cls := .type "tuple", dict := dd, data := .seq its n, slots := sl } ∧ s.heap.get? b = some { cls := .type "dict", dict := dd2, data := .dict es ep, slots := sl2 } ∧ R (.ok (.ret .notImplemented)) s) :=
  .of_wp fun prog w A R s h => by
    obtain ⟨hp, g, d, tk, os⟩ := s
    obtain ⟨hl, hb, h⟩ := h
    have f1 := PySem.F.sub_tuple_dict
    wp_walk using wpAny_loadPart' hl, wpAny_loadPart' hb
    exact ⟨_, rfl, h⟩
section
variable {A : Around} {s : Shared}
theorem eq_tup_dict {l b : Addr} {its : Array Value} {o2 : Obj} {es : Array DictEntry} {ep : Nat} (hl : s.heap.IsTuple l its) (hb : s.heap.get? b = some o2) (hc : o2.cls = .type "dict") (hd : o2.data = .dict es ep) (hu : A.units < cLine) : EqAt A s (.ref l) (.ref b) false := by
  obtain ⟨⟨cls, dd, data, sl⟩, ho, k1, n, k2⟩ := id hl
  obtain ⟨cls2, dd2, data2, sl2⟩ := o2
  simp only at k1 k2 hc hd
  subst k1 k2 hc hd
  have ne : l ≠ b := fun e => by
    rw [e, hb] at ho
    exact absurd (Obj.mk.inj (Option.some.inj ho)).1 (by simp)
  refine .of_refs ne fun prog w E Q h => ?_
  refine rc_eq_decline_or (k := false) ⟨_, ho, rfl⟩ ⟨_, hb, rfl⟩ (by decide) PySem.F.sub_dict_tuple PySem.F.slot_tuple_eq PySem.F.slot_dict_eq_refl (fun _ hq => ?_) (fun _ hq => ?_) (fun _ hq => wpAny_isSame_ref_other' ne ho hb (by simp) hq) (.inr hu) h
  · exact call_meets PySem.F.slot_tuple_eq ⟨_, ho, rfl⟩ PySem.F.entry_tuple_eq (PySem.F.args_tuple_eq_2 _ _) (tup_declines_dict l b its n dd dd2 sl sl2 es ep) ⟨ho, hb, hq⟩
  · exact call_meets PySem.F.slot_dict_eq_refl ⟨_, hb, rfl⟩ PySem.F.entry_dict_eq (PySem.F.args_dict_eq_2 _ _) (dict_declines_tup l b its n dd dd2 sl sl2 es ep) ⟨ho, hb, hq⟩
end
/-! ### values as they are told of: data, and the dict that is empty -/
def Dq (K : PySem.W.Frag) (H : Hp) (v : V) (d : PyData) : Prop := Dp K H v d ∨ ∃ a, v = .ref a ∧ H a = some (.dK []) ∧ d = .dict []
mutual
theorem noDict {K : PySem.W.Frag} {H : Hp} : ∀ {v : V} {d : PyData}, Dp K H v d → d.hasDict = false
  | _, _, .non => rfl
  | _, _, .bl _ => rfl
  | _, _, .int _ => rfl
  | _, _, .str _ => rfl
  | _, _, .lst _ h => by simp only [PyData.hasDict]; exact noDicts h
  | _, _, .tup _ h => by simp only [PyData.hasDict]; exact noDicts h
theorem noDicts {K : PySem.W.Frag} {H : Hp} : ∀ {vs : List V} {ds : List PyData}, DpAll K H vs ds → PyData.hasDictAll ds = false
  | _, _, .nil => by simp only [PyData.hasDictAll]
  | _, _, .cons h1 h2 => by simp only [PyData.hasDictAll, noDict h1, noDicts h2, Bool.or_false]
end
section
variable {X : Cx} {pins : List (Addr × Obj)} {σ : L2.St} {H : Hp} {s : Shared}
theorem dk_nil {P : Program} {w : World} {h : Heap} {a : Addr} (x : ObjOk P w H h a (.dK [])) : a ≠ sysModules ∧ ∃ o es ep, h.get? a = some o ∧ o.cls = .type "dict" ∧ o.data = .dict es ep ∧ es.toList = [] := by
  obtain ⟨_, ne, vs, kv, o, es, ep, e, ex, d, _, l, _⟩ := x
  cases kv
  refine ⟨fun q => by rw [q] at ne; simp at ne, o, es, ep, e, ex.1, d, ?_⟩
  generalize es.toList = ls at l
  cases l
  rfl
theorem Dq.reads (I : Inv X pins σ H s) {d : PyData} {v : V} {u : Value} (h : Dq X.K H v d) (r : RelV v u) : ∃ as, Reads s.heap u d as ∧ (d.hasDict = true → sysModules ∉ as) := by
  rcases h with h | ⟨a, rfl, ha, rfl⟩
  · obtain ⟨as, q⟩ := Dp.reads I d v u h r
    exact ⟨as, q, fun z => by rw [noDict h] at z; cases z⟩
  · cases r
    obtain ⟨ne, o, es, ep, e, c, dt, l⟩ := dk_nil (I.hok a _ ha)
    have q : Reads s.heap (.ref a) (.dict []) (a :: [] ++ []) := .dict e c dt (by rw [l]; exact .nil) (by rw [l]; exact .nil)
    exact ⟨_, q, fun _ z => by simp at z; exact ne z.symm⟩
/-- repr(v), where no text is under way -/
def rRepr (K : PySem.W.Frag) : List V → Hp → VK → Prop := fun xs H Q => ∃ v d, xs = [v] ∧ Dq K H v d ∧ d.showable = true ∧ d.depth ≤ 60 ∧ d.shown.length ≤ sizeLine ∧ Q (.str d.shown) H
theorem call_reprG (gd : X.A.guards = some []) (hu : X.A.units + 64 < cLine) : CallR X (.builtin "repr") (rRepr X.K) := by
  intro pins s σ H xs us Q I r h
  obtain ⟨v, d, rfl, hd, sh, dp, sz, q⟩ := h
  obtain ⟨u, rfl, rv⟩ := vals1 r
  obtain ⟨as, rd, nm⟩ := Dq.reads I hd rv
  have at_ : ∀ (h' : Heap) (t tk : Tok), (∀ b o, s.heap.get? b = some o → h'.get? b = some o) → EP X pins σ Q (.str d.shown t) { s with heap := h', toks := tk } := fun h' t tk k => ⟨.str d.shown, H, I.kept (t' := tk) k, ⟨t, rfl⟩, q⟩
  cases rd with
  | none => exact PySem.P.repr_of_none (at_ s.heap _ _ fun _ _ e => e)
  | bool b => exact PySem.P.repr_of_bool (at_ s.heap _ _ fun _ _ e => e)
  | int i t => exact PySem.P.repr_of_int (of_decide_eq_true sh) (at_ s.heap _ _ fun _ _ e => e)
  | str x t => exact PySem.P.repr_of_str (at_ s.heap _ _ fun _ _ e => e) sz
  | list h1 h2 h3 h4 => exact repr_of_reads' (.list h1 h2 h3 h4) sh nm gd (by omega) (fun _ _ e => e) at_ sz
  | tuple h1 h2 h3 h4 => exact repr_of_reads' (.tuple h1 h2 h3 h4) sh nm gd (by omega) (fun _ _ e => e) at_ sz
  | dict h1 h2 h3 h4 h5 => exact repr_of_reads' (.dict h1 h2 h3 h4 h5) sh nm gd (by omega) (fun _ _ e => e) at_ sz
theorem vals_mem {xs : List V} {us : List Value} {y : Value} (r : Vals xs us) : y ∈ us → ∃ v ∈ xs, RelV v y := by
  induction r with
  | nil => exact fun h => nomatch h
  | cons r1 _ ih =>
    intro h
    rcases List.mem_cons.mp h with e | h
    · exact ⟨_, List.mem_cons_self, by rw [e]; exact r1⟩
    · obtain ⟨v, hv, r⟩ := ih h
      exact ⟨v, List.mem_cons_of_mem _ hv, r⟩
/-- x not in l, l a list: of data; x the empty dict: of tuples -/
def rNotInQ (K : PySem.W.Frag) : R2 := fun x y H Q => rNotInD K x y H Q ∨
  ∃ (a l : Addr) (xs : List V), x = .ref a ∧ y = .ref l ∧ H a = some (.dK []) ∧ SqL K H l xs ∧ (∀ v ∈ xs, ∃ (b : Addr) (ts : List V), v = .ref b ∧ SqT K H b ts) ∧ Q (.bl true) H
theorem op_notInQ (hu : X.A.units + 65 < cLine) : OpR X (compareOp .NotIn) (rNotInQ X.K) := by
  intro pins s σ H x y v u Q I rx ry h
  rcases h with h | ⟨a, l, xs, rfl, rfl, ha, hl, hx, q⟩
  · exact op_notInD hu pins s σ H x y v u Q I rx ry h
  · cases rx
    cases ry
    obtain ⟨ne, o, es, ep, e, c, dt, _⟩ := dk_nil (I.hok a _ ha)
    obtain ⟨its, rv, hls, _⟩ := I.list hl
    refine notIn_listAt (fun _ => false) hls.isList (fun y hy => ?_) ⟨.bl true, H, I, by show Value.bool _ = Value.bool _; simp, q⟩
    obtain ⟨v, hv, r⟩ := vals_mem rv (show y ∈ its by simpa using hy)
    obtain ⟨b, ts, rfl, ht⟩ := hx v hv
    cases r
    obtain ⟨its2, _, hts, _⟩ := I.tuple ht
    exact eq_tup_dict hts e c dt (by show X.A.units + 1 < cLine; omega)
end
end Vt


set_option Elab.async false
set_option linter.all false
set_option maxRecDepth 100000
set_option maxHeartbeats 4000000
namespace Vt
open PySem PySem.Spec PySem.W PySem.Calls PyProof.Rows PySem.HandSPX
/-- the k-th statement within a class -/
def clsDef (s : Stmt) (k : Nat) : Stmt := match s with
  | .ClassDef _ _ _ b _ _ _ _ _ _ _ => b.getD k s
  | _ => s
/-! ### own classes over ArithmeticError -/
def tailA : List Value := [.type "ArithmeticError", .type "Exception", .type "BaseException", .type "object"]
inductive OwnA : List Value → Prop
  | tail : OwnA tailA
  | own {c : Addr} {r : List Value} : OwnA r → OwnA (.ref c :: r)
theorem OwnA.pass {l : List Value} (self : Value) (h : OwnA l) : refuseLoop self "__setattr__" l = pure () := by
  induction h with
  | tail => kernel_rfl
  | own _ ih => rw [refuseLoop_ref]; exact ih
theorem OwnA.has {l : List Value} (X : String) (h : OwnA l) : l.contains (.type X) = tailA.contains (.type X) := by
  induction h with
  | tail => rfl
  | own _ ih => rw [List.contains_cons, ih]; rfl
theorem OwnA.ne {l : List Value} (h : OwnA l) : l.isEmpty = false := by
  cases h <;> rfl
section
open Builtin Builtin.ObjectAttr
variable {prog : Program} {w : World} {A : Around} {R : Result → Shared → Prop} {hp : Heap} {g : Array GenState} {d : PySem.Drawn} {t : Nat} {os : OsState}
/-- self.name = v, the first field of such an error -/
theorem first_field {K : Frag} {name : Str} {tk : Tok} {v : Value} {x C : Addr} {fv : Array Value} {cd : ClassData} (X : K.In hp) (hx : hp.get? x = some { cls := .ref C, data := .fields fv }) (hcd : clsIn K C = some cd) (hm : OwnA cd.mro) (hh : cd.hasDict = true) (ha : findIn K (.ref C) name = some none)
    (hq : ∀ h' tk' dx, (∀ b o, b ≠ x → hp.get? b = some o → h'.get? b = some o) → hp.objs.size ≤ dx → dx ≠ x → h'.get? x = some { cls := .ref C, dict := some dx, data := .fields fv } → h'.Ns1 dx (fun y => if y = name then some v else none) → R (.ok (.ret .none)) ⟨h', g, d, tk', os⟩) :
    codeAny (model prog w) A (.call (.builtin "object.__setattr__") ⟨[.ref x, .str name tk, v], []⟩) R ⟨hp, g, d, t, os⟩ := by
  have inst : InstAt hp x { cls := .ref C, data := .fields fv } C none := ⟨hx, rfl, rfl, trivial⟩
  have far : x ≠ hp.objs.size := Nat.ne_of_lt (Heap.lt_size hx)
  have isObj : Looks (model prog w) hp (isInstance (.ref x) (.type "object")) true := inst.type.andThen (looks_mroIn X (by
    unfold mroIn
    rw [hcd, Option.bind_some, if_neg (by rw [hm.ne]; decide), show cd.mro.contains (.type "object") = true from (hm.has "object").trans (by decide +kernel)]))
  have mros : Looks (model prog w) hp (mroOf (.ref C)) cd.mro := (looks_clsIn X hcd).andThen .now
  have taker : Looks (model prog w) hp (storeTaker? none) none := .now
  have classes : Looks (model prog w) hp (classData C) cd := looks_clsIn X hcd
  refine codeAny_call_builtin F.store_object.slot.plain F.store_object.entry (@check_slot (model prog w) _ _ ⟨hp, g, d, t, os⟩ "object.__setattr__" "object" "__setattr__" (.ref x) [.str name tk, v] [] _ F.store_object.kind F.store_object.split isObj (F.store_object.args (.ref x) (.str name tk) v) ?_)
  rw [osa_eq, refuse_eq]
  refine wpAny_bind (wpAny_bind (inst.type.at (wpAny_bind (mros.at ?_))))
  rw [hm.pass]
  refine wpAny_pure (wpAny_bind (inst.type.at (wpAny_bind ((looks_findIn X ha).at (wpAny_bind (taker.at ?_))))))
  show wpAny _ _ (storeInOwnDict (.ref x) (.ref C) (.str name tk) name v false) _ _ _
  obtain ⟨nm, bs, mro, ns, qn, hd, sn, sb, ab, col, del⟩ := cd
  cases hh
  unfold storeInOwnDict ownDictForStores
  repeat (first | with_reducible refine store_in_new ?_ ?_ | with_reducible refine wpAny_loadPart_at hx ?_ | with_reducible refine classes.at ?_ | wp_step)
  · exact ⟨_, #[], _, (Heap.get?_update_ne _ _ _ _ far.symm).trans (Heap.get?_push_at rfl rfl), rfl, fun e he => absurd he (by simp), fun _ => rfl⟩
  · intro h' tk' hn' same
    refine hq h' tk' hp.objs.size (fun b o hb ho => (same.2 b (Nat.ne_of_lt (Heap.lt_size ho))).trans ((Heap.get?_update_ne _ _ _ _ hb).trans (Heap.get?_push_of_some _ ho))) (Nat.le_refl _) far.symm ?_ hn'
    exact (same.2 x far).trans (Heap.get?_update_self _ (Heap.get?_push_of_some _ hx) rfl)
end
section
variable {M : Model} {A : Around} {E : Value → Shared → Prop} {s : Shared}
theorem read_local {name : Str} {scope : Scope} {L a : Addr} {cd : Value} {m : Str → Option Value} {x : Str} {pos : Pos} {v : Value} {Q : Value → Shared → Prop} (hn : s.heap.Ns L m) (hv : m x = some v) (hk : scope.kind = .function) (hl : (envOfC name scope L a cd).kindOf x = some .local) (hd : (x == ("__debug__" : Str)) = false) (h : Q v s) :
    wpAny M A (eval (.Name x pos) (envOfC name scope L a cd)) Q E s := wpAny_Name (wpAny_loadName_local hk hl hn hv h) hd
end
/-- an error of the class at C, made with the value v for its field f -/
structure Made1 (f : Str) (h h' : Heap) (e C d : Addr) (v : Value) : Prop where
  keep : ∀ b o, h.get? b = some o → h'.get? b = some o
  new : h.objs.size ≤ e
  obj : ∃ oe vs, h'.get? e = some oe ∧ oe.cls = .ref C ∧ oe.dict = some d ∧ oe.data = .fields vs ∧ vs[1]? = some .none
  big : h.objs.size ≤ d
  ne : d ≠ e
  ns : h'.Ns1 d (fun y => if y = f then some v else none)
end Vt
namespace Vt
open PySem PySem.Spec PyProof.Rows L2
theorem rel1 {f : Str} {v : V} {v' : Value} (r : RelV v v') (g : Str) : RelO (List.lookup g [(f, v)]) (if g = f then some v' else none) := by
  by_cases h : g = f
  · subst h
    rw [if_pos rfl, show List.lookup g [(g, v)] = some v by simp [List.lookup]]
    exact r
  · rw [if_neg h, show List.lookup g [(f, v)] = none by simp [List.lookup, show (g == f) = false by simpa using h]]
    trivial
/-- C(e), C a class of errors with the field f -/
def tMk1 (C : Addr) (f : Str) (ta : TA) : L2.St → Hp → XK → Prop := fun σ H Q => ta σ H fun vs H1 => ∃ v, vs = [v] ∧ ∀ d, H1 d = none → Q (.ref C) (some d) (upd H1 d (.xd [(f, v)]))
theorem mk1 {X : Cx} {pins : List (Addr × Obj)} {σ : L2.St} {H1 : Hp} {hp h' : Heap} {g : Array GenState} {dr : PySem.Drawn} {tk tk' : Nat} {os : OsState} {f : Str} {e C d : Addr} {v : V} {v' : Value} {Q : XK} (I1 : Inv X pins σ H1 ⟨hp, g, dr, tk, os⟩) (M : Made1 f hp h' e C d v') (rv : RelV v v')
    (exc : PySem.W.subIn X.K (.ref C) (.type "BaseException") = some true) (ty : PySem.W.typeIn X.K (.ref C) = some (.type "type")) (q : Q (.ref C) (some d) (upd H1 d (.xd [(f, v)]))) : MkP X pins σ Q (.ref e) ⟨h', g, dr, tk', os⟩ := by
  obtain ⟨oe, fv, hoe, hc, hd, hdat, h1⟩ := M.obj
  obtain ⟨G', g1, g2⟩ := restrict h' fun b => decide (b ≠ e)
  have same : ∀ b, b ≠ e → G'.get? b = h'.get? b := fun b hb => g1 b (decide_eq_true hb)
  have gone : G'.get? e = none := g2 e (by simp)
  have old : ∀ b o, hp.get? b = some o → G'.get? b = some o := fun b o z => (same b (Nat.ne_of_lt (Nat.lt_of_lt_of_le (Heap.lt_size z) M.new))).trans (M.keep b o z)
  have dict : ObjOk X.prog X.w (upd H1 d (.xd [(f, v)])) G' d (.xd [(f, v)]) := ⟨_, M.ns.at (fun o z => (same d M.ne).trans z), rel1 rv⟩
  have J : Inv X pins σ (upd H1 d (.xd [(f, v)])) ⟨G', g, dr, tk', os⟩ := I1.laid (t' := tk') old M.big dict
  refine ⟨e, oe, fv, ⟨G', g, dr, tk', os⟩, _, .ref C, some d, rfl, J, fun b o z => ?_, gone, hoe, ⟨hc, hd⟩, hdat, h1, ?_, rfl, I1.bare, raises_own exc ty, q⟩
  · by_cases hb : b = e
    · have z' : G'.get? b = some o := z
      rw [hb, gone] at z'
      cases z'
    · exact (same b hb).symm.trans z
  · rw [upd_ne (Ne.symm M.ne)]
    exact I1.hok.fresh M.new
end Vt


set_option Elab.async false
set_option linter.all false
set_option maxRecDepth 100000
set_option maxHeartbeats 4000000
namespace Vt
open PySem PySem.Spec PySem.W PySem.Calls PyProof.Rows PySem.HandSPX
open L2 (defArgs defBody defScope)
/-! ### InvalidName: one field, name -/
def args_InvalidName (p1 p2 : Pos) : Arguments := { posonlyargs := [], args := [{ arg := "self", annotation := none, pos := p1 }, { arg := "name", annotation := none, pos := p2 }], vararg := none, kwonlyargs := [], kw_defaults := [], kwarg := none, defaults := [] }
def body_InvalidName (q1 q2 q3 q4 : Pos) : List Stmt := [.Assign [.Attribute (.Name "self" q1) "name" q2] (.Name "name" q3) q4]
def scope_InvalidName : Scope := { kind := .function, names := [(PySem.Str.ofString "self", .local), (PySem.Str.ofString "name", .local)], isGenerator := false, isCoroutine := false, more := [] }
/-- what stands behind the top: the class at C, its __init__ at fI -/
structure HasInvalidName (K : Frag) (mg : Str → Option Value) (C fI : Addr) : Prop where
  gl : mg "InvalidName" = some (.ref C)
  cls : ∃ nm q N bs bm sn sub ab col dd k0 k1 k2 k3 k5, K.lookup C = some (excClassObj nm q C N bs bm true sn sub ab col dd k0 k1 k2 k3 k5 "ArithmeticError.__new__") ∧ OwnA bm
  set : findIn K (.ref C) "__setattr__" = some (some (.builtin "object.__setattr__"))
  no : findIn K (.ref C) "name" = some none
  ini : findIn K (.ref C) "__init__" = some (some (.ref fI))
  tyI : typeIn K (.ref fI) = some (.type "function")
  kp : keepIn K (.ref C) = true
  exc : subIn K (.ref C) (.type "BaseException") = some true
  ty : typeIn K (.ref C) = some (.type "type")
  fn : ∃ (oc : Value) (od : Option Addr) (doc pm : Value) (an : Option Addr) (cdv ct : Value) (osl : Array (Option Value)) (p1 p2 q1 q2 q3 q4 : Pos),
    K.lookup fI = some ⟨oc, od, .func (fnOf "__init__" "InvalidName.__init__" (args_InvalidName p1 p2) (body_InvalidName q1 q2 q3 q4) scope_InvalidName .none .none doc pm an cdv ct), osl⟩ ∧ codeIn K cdv "InvalidName.__init__" = true
abbrev ini_InvalidName : Stmt := clsDef (topS 3) 0
theorem has_InvalidName {K : Frag} {mg : Str → Option Value} {h : Heap} {C fI c N : Addr} {nm q : Str} {bs : List Value} {sn : List Str} {sub : List Value} {ab : Bool} {col : Option Bool} {dd od an : Option Addr} {k0 k1 k2 k3 k5 : Option Value} {oc doc pm cdv ct : Value} {osl : Array (Option Value)} (X : K.In h) (G : h.Ns mainGlobals mg)
    (gl : nsIn K mainGlobals "InvalidName" = some (some (.ref C))) (l : K.lookup C = some (excClassObj nm q C N bs [.ref c, .type "ArithmeticError", .type "Exception", .type "BaseException", .type "object"] true sn sub ab col dd k0 k1 k2 k3 k5 "ArithmeticError.__new__"))
    (set : findIn K (.ref C) "__setattr__" = some (some (.builtin "object.__setattr__"))) (no : findIn K (.ref C) "name" = some none) (ini : findIn K (.ref C) "__init__" = some (some (.ref fI))) (tyI : typeIn K (.ref fI) = some (.type "function")) (kp : keepIn K (.ref C) = true)
    (exc : subIn K (.ref C) (.type "BaseException") = some true) (ty : typeIn K (.ref C) = some (.type "type"))
    (lf : K.lookup fI = some ⟨oc, od, .func (fnOf "__init__" "InvalidName.__init__" (defArgs ini_InvalidName) (defBody ini_InvalidName) (defScope ini_InvalidName) .none .none doc pm an cdv ct), osl⟩) (cf : codeIn K cdv "InvalidName.__init__" = true) : HasInvalidName K mg C fI :=
  ⟨mg_of X G gl, ⟨_, _, _, _, _, _, _, _, _, _, _, _, _, _, _, l, .own .tail⟩, set, no, ini, tyI, kp, exc, ty, ⟨_, _, _, _, _, _, _, _, _, _, _, _, _, _, lf, cf⟩⟩
section
variable {prog : Program} {w : World} {A : Around} {R : Result → Shared → Prop} {s : Shared} {K : Frag} {mg : Str → Option Value} {C fI : Addr}
theorem init_InvalidName (T : HasInvalidName K mg C fI) {x t0 : Addr} {v : Value} (X : K.In s.heap) (hlim : s.heap.NoLimit) (hx : s.heap.get? x = some (excO C t0)) (hroom : A.depth < recursionLimit)
    (hq : ∀ h' tk dx, (∀ b o, b ≠ x → s.heap.get? b = some o → h'.get? b = some o) → s.heap.objs.size ≤ dx → dx ≠ x → h'.get? x = some { cls := .ref C, dict := some dx, data := .fields #[.ref t0, .none, .none, .none, .bool false, .none] } →
      h'.Ns1 dx (fun y => if y = "name" then some v else none) → R (.ok (.ret .none)) { s with heap := h', toks := tk }) :
    codeAny (model prog w) A (.call (.ref fI) ⟨[.ref x, v], []⟩) R s := by
  obtain ⟨oc, od, doc, pm, an, cdv, ct, osl, p1, p2, q1, q2, q3, q4, ho, hcd⟩ := T.fn
  obtain ⟨nm, q, N, bs, bm, sn, sub, ab, col, dd, k0, k1, k2, k3, k5, hC, hbm⟩ := T.cls
  have hcl : clsIn K C = some { name := nm, bases := bs, mro := .ref C :: bm, ns := N, qualname := q, hasDict := true, slotNames := sn, subclasses := sub, abstract := ab, collection := col, hasDel := false } := by unfold clsIn; rw [hC] <;> rfl
  refine Att.call_fn (binds := [("self", .ref x), ("name", v)]) X hlim ho hcd hroom (BindsTo.of_eq (by first | rfl | with_unfolding_all rfl)) (by first | rfl | decide | with_unfolding_all rfl) (fun s₁ call => ?_) rfl rfl rfl
  obtain ⟨h₁, tk₁, rfl⟩ := call.toInCall.same
  have old : ∀ b o, s.heap.get? b = some o → h₁.get? b = some o := call.toInCall.keep
  have names := call.toInCall.ns
  have z : s.heap.objs.size < h₁.objs.size := names.lt
  have inK := X.keeps old
  have atX := old _ _ hx
  show wpAny _ _ (execs _ _) _ _ _
  refine wpAny_execs_cons (plainObj_wpAny_Assign_Attribute (read_local (v := v) names (by first | rfl | with_unfolding_all rfl | kernel_rfl) rfl rfl (by decide) (read_local (v := .ref x) names (by first | rfl | with_unfolding_all rfl | kernel_rfl) rfl rfl (by decide) ?_)))
  refine set_plain inK (ox := excO C t0) (od := none) ⟨atX, rfl, rfl, trivial⟩ T.set (first_field inK atX hcl (.own hbm) rfl T.no fun h₃ tk₃ dx k₃ dn dne hx₃ hn₃ => ?_)
  show wpAny _ _ (execs _ _) _ _ _
  exact wpAny_execs_nil (hq h₃ tk₃ dx (fun b o hb e => k₃ b o hb (old b o e)) (Nat.le_of_lt (Nat.lt_of_lt_of_le z dn)) dne hx₃ hn₃)
theorem made_InvalidName (T : HasInvalidName K mg C fI) {v : Value} (X : K.In s.heap) (hlim : s.heap.NoLimit) (hroom : A.depth + 1 < recursionLimit) (hq : ∀ h' tk e d, Made1 "name" s.heap h' e C d v → R (.ok (.ret (.ref e))) { s with heap := h', toks := tk }) :
    codeAny (model prog w) A (.call (.ref C) ⟨[v], []⟩) R s := by
  obtain ⟨nm, q, N, bs, bm, sn, sub, ab, col, dd, k0, k1, k2, k3, k5, hC, hbm⟩ := T.cls
  obtain ⟨hp, g, dr, tk, os⟩ := s
  have old : ∀ b o, hp.get? b = some o → ((hp.push (kdv_tup [v])).push (excO C hp.objs.size)).get? b = some o := fun b o e => Heap.get?_push_of_some _ (Heap.get?_push_of_some _ e)
  have here : ((hp.push (kdv_tup [v])).push (excO C hp.objs.size)).get? (hp.objs.size + 1) = some (excO C hp.objs.size) := by heap_get
  refine call_own F.excBase_ArithmeticError (fun X => hbm.has X) (X _ _ hC) (looks_findIn X T.ini) (fun self => bind_fn X self T.tyI) (by rw [sizeLine_eq]; exact (by decide : 1 ≤ 16777216)) ?_
  refine init_InvalidName (s := ⟨(hp.push (kdv_tup [v])).push (excO C hp.objs.size), g, dr, tk, os⟩) T (X.keeps old) (hlim.keeps old) here (show A.depth + 1 < recursionLimit from hroom) fun h' tk' dx k' dn dne hx hns => ?_
  have z : hp.objs.size + 1 + 1 ≤ dx := by
    first
      | exact dn
      | (rw [Heap.size_push, Heap.size_push] at dn; exact dn)
  exact ⟨rfl, hq h' tk' (hp.objs.size + 1) dx ⟨fun b o e => k' b o (Nat.ne_of_lt (Nat.lt_succ_of_lt (Heap.lt_size e))) (old b o e), Nat.le_succ _, ⟨_, _, hx, rfl, rfl, rfl, rfl⟩, Nat.le_trans (Nat.le_add_right _ 2) z, dne, hns⟩⟩
end
end Vt
namespace Vt
open PySem PySem.Spec PyProof.Rows L2
section
variable {X : Cx} {C fI : Addr}
/-- InvalidName(e): a new error, its field told by its own dict d -/
theorem mk_InvalidName {a : Expr} {ta : TA} {p pos : Pos} {k : Nat} (T : HasInvalidName X.K X.mg C fI) (hr : Room k X.A) (ha : PA X [a] ta) (hg : Gl X "InvalidName" := by rfl) (he : starEach (a :: []) X.env = (false, eval a X.env) :: starEach [] X.env := by rfl) (hpl : (backTo pos (starEach [] X.env)).any (·.1) = false := by rfl) :
    PMk X (.Call (.Name "InvalidName" p) [a] [] pos) (tMk1 C "name" ta) := by
  intro pins s σ H Q I h
  refine wpAny_Call_Name_kw (ld_glob I hg T.gl (PySem.W.callWith_K (h₀ := X.base) I.ok.mod.kin T.kp (thn (ha.run pos pins s σ H _ I h) fun us s1 out => ?_) he hpl))
  obtain ⟨vs, H1, I1, r1, v, rfl, q1⟩ := out
  obtain ⟨v', rfl, rv⟩ := vals1 r1
  refine ⟨I1.kIn, ?_⟩
  have lim := I1.nolimit
  obtain ⟨hp, g, dr, tk, os⟩ := s1
  refine wpAny_call (made_InvalidName T I1.kIn lim (by have := hr.dp; omega) fun h' tk' e d M => ?_)
  exact mk1 I1 M rv T.exc T.ty (q1 d (I1.hok.fresh M.big))
/-- raise InvalidName(e) -/
theorem raise_InvalidName {a : Expr} {ta : TA} {W : WX} {p pos pos2 : Pos} {k : Nat} (hc : X.calm = true) (T : HasInvalidName X.K X.mg C fI) (hr : Room k X.A) (tk : Takes X W) (ha : PA X [a] ta) (hg : Gl X "InvalidName" := by rfl) (he : starEach (a :: []) X.env = (false, eval a X.env) :: starEach [] X.env := by rfl) (hpl : (backTo pos (starEach [] X.env)).any (·.1) = false := by rfl) :
    PS X (.Raise (some (.Call (.Name "InvalidName" p) [a] [] pos)) none pos2) (fun _ σ H => tMk1 C "name" ta σ H fun cls d H' => W cls d σ H') := ps_raise hc tk (mk_InvalidName T hr ha hg he hpl)
end
end Vt


set_option Elab.async false
set_option linter.all false
set_option maxRecDepth 100000
set_option maxHeartbeats 4000000

namespace Vt
open PySem PySem.Spec PyProof.Rows L2
/-- a def that keeps a promise, with its own text -/
def DefOkF (P : Program) (w : World) (K : PySem.W.Frag) (mg : Str → Option Value) (base : Heap) (CX : CXT) (k : Nat) (x : Str) (st : Stmt) (ps : List Str) (sp : Sp) : Prop :=
  ∃ f fd, Fun K x x st f fd ∧ FnOk P w K mg base CX k f fd ps sp ∧ mg x = some (.ref f) ∧ PySem.W.keepIn K (.ref f) = true ∧ Binds K fd ps []
theorem DefOkF.to {P : Program} {w : World} {K : PySem.W.Frag} {mg : Str → Option Value} {base : Heap} {CX : CXT} {k : Nat} {x : Str} {st : Stmt} {ps : List Str} {sp : Sp} (h : DefOkF P w K mg base CX k x st ps sp) : DefOk P w K mg base CX k x ps sp := by
  obtain ⟨f, fd, _, r⟩ := h
  exact ⟨f, fd, r⟩
/-! ### rules that the program's own defs want -/
/-- a list or a tuple of these items -/
def Sq (K : PySem.W.Frag) (H : Hp) (a : Addr) (xs : List V) : Prop := SqL K H a xs ∨ SqT K H a xs
theorem Sq.same {K : PySem.W.Frag} {H H' : Hp} {a : Addr} {xs : List V} (h : Sq K H a xs) (s : Same H H') : Sq K H' a xs := h.imp (fun z => s.seq z) (fun z => s.tupS z)
/-- the call of what a slot holds: the promise goes with the address -/
def tHeld (P : Program) (w : World) (K : PySem.W.Frag) (mg : Str → Option Value) (base : Heap) (k i : Nat) (t : TA) : TE := fun σ H Q => ∃ f sp, σ[i]? = some (some (.ref f)) ∧ Held P w K mg base k f sp ∧ t σ H fun vs H1 => sp vs H1 Q (fun _ _ _ => False)
section
variable {X : Cx}
theorem pe_held {k i : Nat} {x : Str} {p pos : Pos} {e : Expr} {es : List Expr} {t : TA} (hr : Room k X.A) (hN : X.N[i]? = some x) (hv : Vis X.env.scope x) (ha : PA X (e :: es) t)
    (hdb : (x == ("__debug__" : Str)) = false := by decide) (hcd : (x == ("__classdict__" : Str)) = false := by decide) (he : starEach (e :: es) X.env = (false, eval e X.env) :: starEach es X.env := by rfl) (hpl : (backTo pos (starEach es X.env)).any (·.1) = false := by rfl) :
    PE X (.Call (.Name x p) (e :: es) [] pos) (tHeld X.prog X.w X.K X.mg X.base k i t) := by
  constructor
  rintro pins s σ H Q I ⟨f, sp, hs, D, ht⟩
  exact (pe_callA (S := fun a => if a = f then some sp else none) (fun g sq e => by
    by_cases z : g = f
    · subst z
      rw [if_pos rfl] at e
      cases e
      exact D
    · rw [if_neg z] at e
      cases e) hr hN hv ha hdb hcd he hpl).run pins s σ H Q I ⟨f, sp, hs, if_pos rfl, ht⟩
/-- xs.extend(ys), ys a list or a tuple -/
theorem ext_any {prog : Program} {w : World} (l : Addr) (its : Array Value) (n : Nat) (b : Addr) (o : Obj) (its2 : Array Value) (n2 : Nat) (hc : o.cls = .type "list" ∨ o.cls = .type "tuple") (hd : o.data = .seq its2 n2)
    (hs0 : ¬(!its.isEmpty && Builtin.List.listTooLong (its.size + its2.size)) = true) (hs1 : its.size ≤ sizeLine) (hs2 : its.size + its2.size ≤ sizeLine + 1) :
    Meets (Builtin.«list.extend» ⟨[.ref l, .ref b], []⟩) (fun _ R s => s.heap.get? l = some { cls := .type "list", dict := none, data := .seq its n, slots := #[] } ∧ s.heap.get? b = some o ∧ R (.ok (.ret Value.none)) { s with heap := s.heap.update l (Obj.mapSeq fun x => x ++ its2), toks := s.toks }) :=
  .of_wp fun prog w A R s h => by
    obtain ⟨hp, g, d, tk, os⟩ := s
    obtain ⟨hl, hb, h⟩ := h
    obtain ⟨oc, od, oda, osl⟩ := o
    have hz' : (its ++ its2).size ≤ sizeLine + 1 := by
      rw [Array.size_append]
      exact hs2
    cases hd
    rcases hc with hc | hc
    · cases hc
      wp_walk using (wpAny_updateSeq hl rfl (hz := hs1) (_hz' := hz')), wpAny_loadPart' hl, wpAny_loadPart' hb
      exact ⟨_, rfl, h⟩
    · cases hc
      wp_walk using (wpAny_updateSeq hl rfl (hz := hs1) (_hz' := hz')), wpAny_loadPart' hl, wpAny_loadPart' hb
      exact ⟨_, rfl, h⟩
def rExtA (K : PySem.W.Frag) : V → List V → Hp → VK → Prop := fun x vs H Q => ∃ l b xs zs, x = .ref l ∧ vs = [.ref b] ∧ H l = some (.lst xs) ∧ Sq K H b zs ∧ xs.length + zs.length ≤ sizeLine ∧ Q .non (upd H l (.lst (xs ++ zs)))
theorem mt_extA : MtM X "list.extend" (rExtA X.K) := by
  intro pins s σ H x vs v us Q I rx rv h
  obtain ⟨l, b, xs, zs, rfl, rfl, hH, hB, hz, q⟩ := h
  cases rx
  obtain ⟨u, rfl, ru⟩ := rv.one
  cases ru
  obtain ⟨z, its, n, r, hl, e⟩ := I.lstM hH
  have hobj : ∃ (its2 : List Value) (o : Obj) (n2 : Nat), Vals zs its2 ∧ s.heap.get? b = some o ∧ (o.cls = .type "list" ∨ o.cls = .type "tuple") ∧ o.data = .seq its2.toArray n2 := by
    rcases hB with hB | hB
    · obtain ⟨i2, r2, ⟨o, n2, e2, c2, _, d2⟩, _⟩ := I.list hB
      exact ⟨i2, o, n2, r2, e2, .inl c2, d2⟩
    · obtain ⟨i2, r2, ⟨o, e2, c2, n2, d2⟩, _⟩ := I.tuple hB
      exact ⟨i2, o, n2, r2, e2, .inr c2, d2⟩
  obtain ⟨its2, o, n2, r2, e2, c2, d2⟩ := hobj
  have hl2 := r2.length
  have hsum : its.toArray.size + its2.toArray.size ≤ sizeLine := by
    simp only [List.size_toArray]
    omega
  have hlong : ¬ (!its.toArray.isEmpty && Builtin.List.listTooLong (its.toArray.size + its2.toArray.size)) = true := by
    rw [notLongL hsum, Bool.and_false]
    decide
  refine call_meets F.slot_list_extend ⟨_, e, rfl⟩ F.entry_list_extend (F.args_list_extend_2 _ _) (ext_any (prog := X.prog) (w := X.w) l its.toArray n b o its2.toArray n2 c2 d2 hlong (by omega) (by omega)) ⟨e, e2, ?_⟩
  exact ⟨.non, _, I.lset (its' := its ++ its2) hH e (by simp) (r.append r2) (by rw [List.length_append]; exact hz), rfl, q⟩
end
/-- a walk over a list or a tuple -/
theorem pi_either {X : Cx} {tg e : Expr} {A B : TI} (a : PI X tg e A) (b : PI X tg e B) : PI X tg e (fun σ H R => A σ H R ∨ B σ H R) := by
  constructor
  rintro pins s σ H R I (h | h)
  · exact a.run pins s σ H R I h
  · exact b.run pins s σ H R I h
/-- .. where all that it walks stands in G -/
theorem for_sq {K : PySem.W.Frag} {a : Addr} {xs : List V} {n : Nat} {g : TG} {tb : TS} {D : Ends} {σ : L2.St} {H G : Hp} (hσ : σ[n]? = some (some (.ref a))) (hq : Sq K G a xs) (Pv : Nat → L2.St → Hp → Prop) (h0 : Pv 0 σ H) (hG : ∀ i σ X, Pv i σ X → Same G X)
    (hs : ∀ i x σ X, xs[i]? = some x → Pv i σ X → g x σ X fun σ2 X2 => tb { D with nx := Pv (i + 1), ct := Pv (i + 1), bk := D.nx } σ2 X2) (hd : ∀ σ X, Pv xs.length σ X → D.nx σ X) :
    tFor (fun σ H R => iList K (tVar n) σ H R ∨ iTup K (tVar n) σ H R) g tb D σ H := by
  rcases hq with hq | hq
  · exact .inl ⟨.ref a, hσ, a, rfl, ⟨xs, (hG 0 σ H h0).seq hq⟩, for_list (K := K) (a := a) (xs := xs) Pv h0 (fun i σ X _ z => (hG i σ X z).seq hq) hs hd⟩
  · exact .inr ⟨.ref a, hσ, a, rfl, ⟨xs, (hG 0 σ H h0).tupS hq⟩, for_tup (K := K) (a := a) (xs := xs) Pv h0 (fun i σ X _ z => (hG i σ X z).tupS hq) hs hd⟩
/-- the first steps of a reading alone -/
theorem gName_to {i : Nat} {v : V} {σ : L2.St} {H : Hp} {Q : L2.St → Hp → Prop} (h : Q (σ.set i (some v)) H) : gName i v σ H Q := h
theorem nx_seq {t u : TS} {D : Ends} {r : VK} {b c : L2.St → Hp → Prop} {σ : L2.St} {H : Hp} (h : t { D with nx := u D } σ H) : Ends.nx { nx := tSeq t u D, rt := r, bk := b, ct := c } σ H := h
theorem nx_one {t : TS} {D : Ends} {r : VK} {b c : L2.St → Hp → Prop} {σ : L2.St} {H : Hp} (h : t D σ H) : Ends.nx { nx := t D, rt := r, bk := b, ct := c } σ H := h
/-! ### names -/
theorem low_az : ∀ c : Nat, 97 ≤ c → c ≤ 122 → Unicode.isAlpha c = true ∧ Unicode.isLower c = true ∧ Unicode.isUpper c = false ∧ Unicode.isTitle c = false := by
  have z : ∀ k : Fin 26, Unicode.isAlpha (97 + k.val) = true ∧ Unicode.isLower (97 + k.val) = true ∧ Unicode.isUpper (97 + k.val) = false ∧ Unicode.isTitle (97 + k.val) = false := by decide +kernel
  intro c h1 h2
  have := z ⟨c - 97, by omega⟩
  rw [show 97 + (c - 97) = c by omega] at this
  exact this
theorem name_len {n : Str} (h : isName n) : n.cps.size = n.length := rfl
theorem name_ascii {n : Str} (h : isName n) : Txt.isascii n = true := by
  unfold Txt.isascii
  rw [← Array.all_toList, List.all_eq_true]
  intro c hc
  have := h.2.2 c hc
  exact decide_eq_true (by omega)
theorem name_alpha {n : Str} (h : isName n) : Txt.isalpha n = true := by
  unfold Txt.isalpha
  rw [Bool.and_eq_true]
  refine ⟨decide_eq_true (by have := h.1; omega), ?_⟩
  rw [← Array.all_toList, List.all_eq_true]
  intro c hc
  have := h.2.2 c hc
  exact (low_az c this.1 this.2).1
theorem name_lower {n : Str} (h : isName n) : Txt.islower n = true := by
  unfold Txt.islower
  rw [Bool.and_eq_true]
  refine ⟨?_, ?_⟩
  · rw [← Array.any_toList, List.any_eq_true]
    have hl : 0 < n.cps.toList.length := by
      have := h.1
      rw [Array.length_toList]
      exact this
    refine ⟨n.cps.toList[0], List.getElem_mem hl, ?_⟩
    have := h.2.2 _ (List.getElem_mem hl)
    exact (low_az _ this.1 this.2).2.1
  · rw [Bool.not_eq_true', ← Array.any_toList, List.any_eq_false]
    intro c hc
    have := h.2.2 c hc
    have z := low_az c this.1 this.2
    rw [z.2.2.1, z.2.2.2]
    decide
theorem strLt_decide {a b : Str} (h : strLt a b) : (!decide (a.cps.toList < b.cps.toList)) = false := by
  have z : a.cps.toList < b.cps.toList := h
  rw [decide_eq_true z]
  rfl
/-! ### the constants of the program -/
structure Cst (mg : Str → Option Value) : Prop where
  nodes : ∃ t, mg "MOST_NODES" = some (.int 400 t)
  depth : ∃ t, mg "MOST_DEPTH" = some (.int 100 t)
  letters : ∃ t, mg "MOST_LETTERS" = some (.int 8 t)
  least : ∃ t, mg "LEAST_ITEMS" = some (.int 2 t)
  items : ∃ t, mg "MOST_ITEMS" = some (.int 6 t)
  fields : ∃ t, mg "MOST_FIELDS" = some (.int 12 t)
  great : ∃ t, mg "GREATEST" = some (.int (10 ^ 30) t)
theorem rel_int {i : Int} {t : Tok} : RelV (.int i) (Value.int i t) := ⟨t, rfl⟩
end Vt


set_option Elab.async false
set_option linter.all false
set_option maxRecDepth 100000
set_option maxHeartbeats 4000000

namespace Vt
open PySem PySem.Spec PyProof.Rows L2 TL
/-! ### ascending lists of texts -/
theorem cps_inj {a b : Str} (h : a.cps.toList = b.cps.toList) : a = b := by
  obtain ⟨⟨a⟩⟩ := a
  obtain ⟨⟨b⟩⟩ := b
  cases h
  rfl
theorem rising_le : ∀ (l : List Str) (p : Str), risingS p l = true → (p :: l).Pairwise (fun a b => a.cps.toList ≤ b.cps.toList)
  | [], p, _ => by simp
  | x :: r, p, h => by
    simp only [risingS, Bool.and_eq_true, Bool.not_eq_true', PyProof.Rows.ltCps_eq, decide_eq_false_iff_not] at h
    have ih := rising_le r x h.2
    refine List.pairwise_cons.mpr ⟨fun y hy => ?_, ih⟩
    have px : p.cps.toList ≤ x.cps.toList := List.not_lt.mp h.1
    rcases List.mem_cons.mp hy with e | hy
    · rw [e]; exact px
    · exact List.le_trans px ((List.pairwise_cons.mp ih).1 y hy)
theorem sorted_le {l : List Str} (h : sortedS l = true) : l.Pairwise (fun a b => a.cps.toList ≤ b.cps.toList) := by
  cases l with
  | nil => exact .nil
  | cons x r => exact rising_le r x h
theorem sorted_same : ∀ {xs ys : List Str}, xs.Pairwise (fun a b => a.cps.toList ≤ b.cps.toList) → ys.Pairwise (fun a b => a.cps.toList ≤ b.cps.toList) → xs.Nodup → ys.Nodup → (∀ x, x ∈ xs ↔ x ∈ ys) → xs = ys
  | [], [], _, _, _, _, _ => rfl
  | [], y :: ys, _, _, _, _, h => absurd ((h y).mpr List.mem_cons_self) List.not_mem_nil
  | x :: xs, [], _, _, _, _, h => absurd ((h x).mp List.mem_cons_self) List.not_mem_nil
  | x :: xs, y :: ys, p, q, n, m, h => by
    have p' := List.pairwise_cons.mp p
    have q' := List.pairwise_cons.mp q
    have n' := List.nodup_cons.mp n
    have m' := List.nodup_cons.mp m
    have e : x = y := by
      rcases List.mem_cons.mp ((h x).mp List.mem_cons_self) with e | hx
      · exact e
      rcases List.mem_cons.mp ((h y).mpr List.mem_cons_self) with e | hy
      · exact e.symm
      exact cps_inj (List.le_antisymm (p'.1 y hy) (q'.1 x hx))
    subst e
    rw [sorted_same p'.2 q'.2 n'.2 m'.2 fun z => ?_]
    constructor
    · intro hz
      rcases List.mem_cons.mp ((h z).mp (List.mem_cons_of_mem _ hz)) with e | hz'
      · exact absurd (by rw [← e]; exact hz) n'.1
      · exact hz'
    · intro hz
      rcases List.mem_cons.mp ((h z).mpr (List.mem_cons_of_mem _ hz)) with e | hz'
      · exact absurd (by rw [← e]; exact hz) m'.1
      · exact hz'
theorem sorted_eq {xs ys : List Str} (p : sortedS xs = true) (q : sortedS ys = true) (n : xs.Nodup) (m : ys.Nodup) (h : ∀ x, x ∈ xs ↔ x ∈ ys) : xs = ys := sorted_same (sorted_le p) (sorted_le q) n m h
theorem asc_nodup {l : List Str} (h : l.Pairwise strLt) : l.Nodup := by
  refine List.Pairwise.imp (R := strLt) (S := fun a b => a ≠ b) (fun {a b} lt e => ?_) h
  subst e
  exact List.lt_irrefl _ (show a.cps.toList < a.cps.toList from lt)
theorem asc_sorted {xs ys : List Str} (p : ys.Perm xs) (s : sortedS ys = true) (h : xs.Pairwise strLt) : ys = xs :=
  sorted_same (sorted_le s) (h.imp fun {a b} lt => List.le_of_lt (show a.cps.toList < b.cps.toList from lt)) (p.nodup_iff.mpr (asc_nodup h)) (asc_nodup h) fun _ => p.mem_iff
/-! ### texts of small letters -/
def lowS (n : Str) : Prop := ∀ c ∈ n.cps.toList, 97 ≤ c ∧ c ≤ 122
theorem low_ascii {n : Str} (h : lowS n) : Txt.isascii n = true := by
  unfold Txt.isascii
  rw [← Array.all_toList, List.all_eq_true]
  intro c hc
  have := h c hc
  exact decide_eq_true (by omega)
theorem low_alpha {n : Str} (h : lowS n) (h1 : 1 ≤ n.length) : Txt.isalpha n = true := by
  unfold Txt.isalpha
  rw [Bool.and_eq_true]
  refine ⟨decide_eq_true (by omega), ?_⟩
  rw [← Array.all_toList, List.all_eq_true]
  intro c hc
  have := h c hc
  exact (low_az c this.1 this.2).1
theorem low_lower {n : Str} (h : lowS n) (h1 : 1 ≤ n.length) : Txt.islower n = true := by
  unfold Txt.islower
  rw [Bool.and_eq_true]
  refine ⟨?_, ?_⟩
  · rw [← Array.any_toList, List.any_eq_true]
    have hl : 0 < n.cps.toList.length := by
      rw [Array.length_toList]
      exact h1
    refine ⟨n.cps.toList[0], List.getElem_mem hl, ?_⟩
    have := h _ (List.getElem_mem hl)
    exact (low_az _ this.1 this.2).2.1
  · rw [Bool.not_eq_true', ← Array.any_toList, List.any_eq_false]
    intro c hc
    have := h c hc
    have z := low_az c this.1 this.2
    rw [z.2.2.1, z.2.2.2]
    decide
theorem tl_mem_app {a b : Str} {c : Nat} (h : c ∈ (a ++ b).cps.toList) : c ∈ a.cps.toList ∨ c ∈ b.cps.toList := by
  have e : (a ++ b).cps.toList = a.cps.toList ++ b.cps.toList := Array.toList_append
  rw [e] at h
  exact List.mem_append.mp h
theorem low_join : ∀ ys : List Str, (∀ n ∈ ys, lowS n) → lowS (Txt.join "" ys)
  | [], _ => fun c h => by
    rw [join_eq] at h
    exact absurd h (by show c ∉ ([] : List Nat); simp)
  | [x], h => by
    rw [join_eq]
    exact h x List.mem_cons_self
  | x :: y :: r, h => by
    rw [join_eq]
    intro c hc
    have e : Str.join "" (x :: y :: r) = x ++ "" ++ Str.join "" (y :: r) := rfl
    rw [e] at hc
    rcases tl_mem_app hc with hc | hc
    · rcases tl_mem_app hc with hc | hc
      · exact h x List.mem_cons_self c hc
      · exact absurd hc (by show c ∉ ([] : List Nat); simp)
    · have ih := low_join (y :: r) fun n m => h n (List.mem_cons_of_mem _ m)
      rw [join_eq] at ih
      exact ih c hc
theorem join_pos : ∀ {ys : List Str}, ys ≠ [] → (∀ n ∈ ys, 1 ≤ n.length) → 1 ≤ (Txt.join "" ys).length
  | [], h, _ => absurd rfl h
  | [x], _, h => by
    rw [join_eq]
    exact h x List.mem_cons_self
  | x :: y :: r, _, h => by
    rw [join_eq]
    have e : Str.join "" (x :: y :: r) = x ++ "" ++ Str.join "" (y :: r) := rfl
    have := h x List.mem_cons_self
    rw [e, Str.length_append, Str.length_append]
    omega
end Vt


set_option Elab.async false
set_option linter.all false
set_option maxRecDepth 100000
set_option maxHeartbeats 4000000
/-! ### sets of texts: made of a list, sorted (as the library does it for ints) -/
namespace PySem.TX
open PySem PySem.Spec PyProof.Rows L2
/-- an entry that holds a text -/
def TxE (P : Program) (w : World) (e : Int × Value) : Prop := ∃ k tk, e.2 = Value.str k tk ∧ e.1 = (PySem.strKind P w).hash k
abbrev txt (e : Int × Value) : Str := strOf e.2
/-- the set of texts at a: its members are those of zs, at most n; its table can be walked -/
def SetT (P : Program) (w : World) (h : Heap) (a : Addr) (zs : List Str) (n : Nat) : Prop :=
  ∃ o es ep t, h.get? a = some o ∧ o.ExactSet ∧ o.data = .set es ep t ∧ (∀ e ∈ es.toList, TxE P w e) ∧ (es.toList.map txt).Nodup ∧ (∀ k, k ∈ zs ↔ k ∈ es.toList.map txt) ∧ es.size ≤ n ∧ n < scanBound ∧ t.fits es.size = true ∧ Ris t.place.toList ∧ (w.params.followText "set-order" = true ∨ t.led = true)
section
variable {P : Program} {w : World} {h h' : Heap} {a : Addr} {zs : List Str} {n : Nat}
theorem SetT.at (R : SetT P w h a zs n) (k : ∀ o, h.get? a = some o → h'.get? a = some o) : SetT P w h' a zs n := (fun ⟨o, es, ep, t, ho, r⟩ => ⟨o, es, ep, t, k o ho, r⟩) R
theorem tx_elems {l : List (Int × Value)} (g : ∀ e ∈ l, TxE P w e) : ElemsOf (PySem.strKind P w) l := fun e he => (fun ⟨k, tk, h1, h2⟩ => ⟨⟨k, by rw [h1]; exact PySem.strKind_is P w k tk, h2⟩, by rw [h1]; rfl⟩) (g e he)
theorem tx_is {e : Int × Value} (g : TxE P w e) (k : Str) : (PySem.strKind P w).is k e.2 = true ↔ txt e = k := by
  obtain ⟨k0, tk, h1, _⟩ := g
  have e1 := PySem.strKind_is P w k0 tk
  unfold txt
  rw [h1]
  constructor
  · intro z
    exact ((PySem.strKind P w).inj _ _ _ z e1).symm
  · intro z
    cases z
    exact e1
theorem tx_mem {l : List (Int × Value)} (g : ∀ e ∈ l, TxE P w e) (k : Str) : k ∈ l.map txt ↔ ∃ e ∈ l, (PySem.strKind P w).is k e.2 = true := by
  rw [List.mem_map]
  exact ⟨fun ⟨e, m, q⟩ => ⟨e, m, (tx_is (g e m) k).mpr q⟩, fun ⟨e, m, q⟩ => ⟨e, m, (tx_is (g e m) k).mp q⟩⟩
end
section
variable {P : Program} {w : World} {A : Around} {E : Value → Shared → Prop} {s : Shared} {a : Addr} {zs : List Str} {n : Nat}
/-- the store, and the new table where the old one is too full -/
theorem tx_tail {g : Bool → Sem Unit} (hg : ∀ (b : Bool) (s₁ : Shared) (Q' : Unit → Shared → Prop), Q' () s₁ → wpAny (model P w) A (g b) Q' E s₁) {o : Obj} {es es1 : Array (Int × Value)} {ep : Nat} {t t2 : SetTable} (ho : s.heap.get? a = some o) (hex : o.ExactSet) (hd : o.data = .set es ep t)
    (g1 : ∀ e ∈ es1.toList, TxE P w e) (nd1 : (es1.toList.map txt).Nodup) (m1 : ∀ k, k ∈ zs ↔ k ∈ es1.toList.map txt) (hn : es1.size ≤ n) (hb : n < scanBound) (hf2 : t2.fits es1.size = true) (hr : Ris t2.place.toList) (hl : w.params.followText "set-order" = true ∨ t2.led = true) {wasDummy : Bool} {R : Option Bool → Shared → Prop}
    (hR : ∀ h', Heap.SameBut a s.heap h' → SetT P w h' a zs n → R (some true) { s with heap := h' }) :
    wpAny (model P w) A (do
        storeSet a es1 t2
        if (!wasDummy && t2.tooFull) = true then do
            g (relayAll t2 es1 (SetTable.grown es1.size)).2.2
            storeSet a (relayAll t2 es1 (SetTable.grown es1.size)).1 (relayAll t2 es1 (SetTable.grown es1.size)).2.1
            pure (some true)
          else pure (some true)) R E s := by
  have b1 : es1.size < scanBound := Nat.lt_of_le_of_lt hn hb
  refine wpAny_bind (wpAny_storeSet_of ho hd ?_ (fits_of_scanBound b1))
  have o1 := L2.store_at (es' := es1) (t' := t2) ho hd
  have k1 := Heap.SameBut.update s.heap a (Obj.putSet es1 t2)
  split
  · have pm := relayAll_perm t2 es1 (SetTable.grown es1.size)
    have f3 := relayAll_fits t2 es1 (SetTable.grown es1.size)
    have r3 := L2.relayAll_ris t2 es1 (SetTable.grown es1.size)
    have l3 := L2.relayAll_led t2 es1 (SetTable.grown es1.size)
    generalize relayAll t2 es1 (SetTable.grown es1.size) = Z at pm f3 r3 l3 ⊢
    obtain ⟨es2, t3, gave⟩ := Z
    dsimp only at pm f3 r3 l3 ⊢
    have z2 : es2.size = es1.size := by rw [← Array.length_toList, pm.length_eq, Array.length_toList]
    refine wpAny_bind (hg _ _ _ (wpAny_bind (wpAny_storeSet_of o1 rfl (wpAny_pure (hR _ (k1.trans (Heap.SameBut.update _ a _)) ?_)) (fits_of_scanBound (by rw [z2]; exact b1)))))
    exact ⟨_, es2, _, t3, L2.store_at (es' := es2) (t' := t3) o1 rfl, hex, rfl, fun e he => g1 e (pm.mem_iff.mp he), (pm.map txt).nodup_iff.mpr nd1, fun k => (m1 k).trans (pm.map txt).mem_iff.symm, by rw [z2]; exact hn, hb, f3, r3, hl.imp id fun z => by rw [l3]; exact z⟩
  · exact wpAny_pure (hR _ k1 ⟨_, es1, _, t2, o1, hex, rfl, g1, nd1, m1, hn, hb, hf2, hr, hl⟩)
/-- one text more -/
theorem tx_add {k : Str} {tk : Tok} {Q : Bool → Shared → Prop} (R : SetT P w s.heap a zs n) (room : n + 1 < scanBound) (hQ : ∀ h' b, Heap.SameBut a s.heap h' → SetT P w h' a (zs ++ [k]) (n + 1) → Q b { s with heap := h' }) :
    wpAny (model P w) A (setAddHashed a (.str k tk) ((PySem.strKind P w).hash k)) Q E s := by
  obtain ⟨o, es, ep, t, ho, hex, hd, g, nd, hm, hn, hb, hf, hr, hl⟩ := R
  have key : (PySem.strKind P w).is k (.str k tk) = true := PySem.strKind_is P w k tk
  have sc : (Value.str k tk).scannable = true := rfl
  have el : ElemsOf (PySem.strKind P w) es.toList := tx_elems g
  have esb : es.size < scanBound := Nat.lt_of_le_of_lt hn hb
  unfold setAddHashed setAddHashedIn
  refine wpAny_holding (wpAny_bind (wpAny_setState_of ho hd hf ?_))
  dsimp only
  rw [byScan_of sc esb el]
  simp only [↓reduceIte]
  unfold setAddByScan
  refine wpAny_bind (wpAny_bind (wpAny_rule (wpAny_bind (wpAny_setScan_of key ho hd hf el ?_))))
  cases hfi : List.findIdx? (fun e => (PySem.strKind P w).is k e.2) es.toList with
  | some j =>
    dsimp only
    obtain ⟨hj, pj, _⟩ := List.findIdx?_eq_some_iff_getElem.mp hfi
    have old : k ∈ zs := (hm k).mpr ((tx_mem (P := P) (w := w) g k).mpr ⟨es.toList[j], List.getElem_mem hj, pj⟩)
    refine wpAny_pure (wpAny_pure ?_)
    exact hQ s.heap _ (Heap.SameBut.refl a s.heap) ⟨o, es, ep, t, ho, hex, hd, g, nd, fun i => by
      rw [← hm i, List.mem_append, List.mem_singleton]
      exact ⟨fun z => z.elim id fun e => by rw [e]; exact old, .inl⟩, by omega, room, hf, hr, hl⟩
  | none =>
    dsimp only
    have fresh : k ∉ es.toList.map txt := fun z => by
      obtain ⟨e, he, q⟩ := (tx_mem (P := P) (w := w) g k).mp z
      have c := List.findIdx?_eq_none_iff.mp hfi e he
      rw [q] at c
      cases c
    have way : ∀ (b : Bool) {s₁ : Shared} {Q' : Unit → Shared → Prop}, Q' () s₁ → wpAny (model P w) A (match b with | true => rule "set.scan.the-table-gave-way" | false => pure ()) Q' E s₁ := fun b s₁ Q' q => by (cases b; exact wpAny_pure q; exact wpAny_rule q)
    have pm := layNew_perm t es ((PySem.strKind P w).hash k) (.str k tk)
    have f1 := layNew_fits t es ((PySem.strKind P w).hash k) (.str k tk)
    have r1 := L2.layNew_ris t es ((PySem.strKind P w).hash k) (.str k tk) hr
    have l1 := L2.layNew_led t es ((PySem.strKind P w).hash k) (.str k tk)
    generalize layNew t es ((PySem.strKind P w).hash k) (.str k tk) = Z at pm f1 r1 l1 ⊢
    obtain ⟨es1, t1, wasDummy, gave⟩ := Z
    dsimp only at pm f1 r1 l1 ⊢
    rw [Array.toList_push] at pm
    have pc : es1.toList.Perm (((PySem.strKind P w).hash k, Value.str k tk) :: es.toList) := pm.trans (List.perm_append_singleton _ _)
    have pk : (es1.toList.map txt).Perm (k :: es.toList.map txt) := pc.map txt
    have g1 : ∀ e ∈ es1.toList, TxE P w e := fun e he => (List.mem_cons.mp (pc.mem_iff.mp he)).elim (fun z => by rw [z]; exact ⟨k, tk, rfl, rfl⟩) fun z => g e z
    have nd1 : (es1.toList.map txt).Nodup := pk.nodup_iff.mpr (List.nodup_cons.mpr ⟨fresh, nd⟩)
    have m1 : ∀ i, i ∈ zs ++ [k] ↔ i ∈ es1.toList.map txt := fun i => by
      rw [pk.mem_iff, List.mem_cons, List.mem_append, List.mem_singleton, hm i]
      exact Or.comm
    have z1 : es1.size = es.size + 1 := by rw [← Array.length_toList, pc.length_eq, List.length_cons, Array.length_toList]
    have led : w.params.followText "set-order" = true ∨ t1.led = true := hl.imp id fun z => by rw [l1]; exact z
    refine wpAny_bind (way _ ?_)
    split
    · refine wpAny_bind ?_
      rw [hashByValue_scannable 8 sc]
      refine wpAny_pure (tx_tail ?_ ho hex hd g1 nd1 m1 (by omega) room ?_ ?_ ?_ ?_)
      · intro b s₁ Q' q; (cases b; exact wpAny_pure q; exact wpAny_rule q)
      · first | (split <;> first | exact f1 | exact SetTable.fits_plain_off f1) | exact f1
      · first | (split <;> exact r1) | exact r1
      · first | (split <;> exact led) | exact led
      · exact fun h' sb r => wpAny_pure (hQ h' _ sb r)
    · refine wpAny_bind (wpAny_pure ?_)
      simp only [↓reduceIte]
      refine tx_tail ?_ ho hex hd g1 nd1 m1 (by omega) room f1 r1 led fun h' sb r => wpAny_pure (hQ h' _ sb r)
      intro b s₁ Q' q; (cases b; exact wpAny_pure q; exact wpAny_rule q)
end
end PySem.TX


set_option Elab.async false
set_option linter.all false
set_option maxRecDepth 100000
set_option maxHeartbeats 4000000
namespace PySem.TX
open PySem PySem.Spec PyProof.Rows L2
section
variable {P : Program} {w : World} {A : Around} {R : Result → Shared → Prop} {I : Addr} {fp wr : List Addr} {G : Array GenState → Array GenState → Prop} {n : Nat} {Pv : Nat → Value → Prop} {St : Nat → Shared → Prop}
/-- all that an iterator yields is added -/
theorem tx_loop (W : WalksS P w A.in1 I fp wr G n Pv St) (S : Addr) (hSf : S ∉ fp) (xs : List Str) (hlen : xs.length = n) (hval : ∀ i v, Pv i v → ∃ x t, xs[i]? = some x ∧ v = .str x t) (hb : n < scanBound) :
    ∀ (k i : Nat) (s : Shared), n - i = k → i ≤ n → St i s → SetT P w s.heap S (xs.take i) i → (∀ s', Moved (S :: wr) G s s' → SetT P w s'.heap S xs n → R (.ok (.ret .none)) s') →
      codeAny (model P w) A (.builtin "set.update.loop" ⟨[.ref S, .ref I], []⟩) R s := by
  have notW : S ∉ wr := fun h => hSf (W.sub _ h)
  have more : ∀ b ∈ wr, b ∈ S :: wr := fun b hb => List.mem_cons_of_mem _ hb
  intro k
  induction k with
  | zero =>
    intro i s hk hi hst hS hR
    obtain rfl : i = n := by omega
    refine codeAny_builtin PyProof.Rows.F.entry_set_update_loop ?_
    rw [Around.under_plainId PyProof.Rows.F.plain_set_update_loop _]
    show wpAny _ A.in1 (pyNext (.ref I) >>= _) _ _ s
    refine wpAny_bind (W.done s _ _ hst fun s1 hm => (show wpAny _ A.in1 (ret Value.none) _ _ s1 from wpAny_pure (hR s1 (hm.mono more) ?_)))
    rw [List.take_of_length_le (by omega)] at hS
    exact hS.at fun o e => hm.heap S _ notW e
  | succ k ih =>
    intro i s hk hi hst hS hR
    have lt : i < n := by omega
    refine codeAny_builtin PyProof.Rows.F.entry_set_update_loop ?_
    rw [Around.under_plainId PyProof.Rows.F.plain_set_update_loop _]
    show wpAny _ A.in1 (pyNext (.ref I) >>= _) _ _ s
    refine wpAny_bind (W.item i s _ _ lt hst fun v s1 hP hst1 hm => ?_)
    obtain ⟨x, t, ex, rfl⟩ := hval i v hP
    have hS1 : SetT P w s1.heap S (xs.take i) i := hS.at fun o e => hm.heap S _ notW e
    show wpAny _ A.in1 (holding [Value.str x t] (setAdd S (.str x t)) >>= _) _ _ s1
    refine wpAny_bind (wpAny_holding ?_)
    unfold setAdd
    refine wpAny_holding (wpAny_bind ((PySem.strKind P w).pyHash (k := x) (PySem.strKind_is _ _ _ _) ?_))
    refine tx_add (s := { s1 with toks := s1.toks + 1 }) hS1 (by omega) fun h2 b sb hS2 => ?_
    have hS3 : SetT P w h2 S (xs.take (i + 1)) (i + 1) := by
      rw [List.take_add_one, ex]
      exact hS2
    refine wpAny_pure ⟨plainId_quiet PyProof.Rows.F.plain_set_update_loop _, ih (i + 1) _ (by omega) lt (W.frame _ s1 _ _ hst1 (Nat.le_succ _) fun b hb o e => ?_) hS3 fun s3 hm3 hS4 => hR s3 (Moved.trans W.gtrans ((hm.mono more).then_heap (Nat.le_succ _) fun b o hb e => ?_) hm3) hS4⟩
    · exact (sb.2 b fun z => hSf (by rw [← z]; exact hb)).trans e
    · exact (sb.2 b fun z => hb (by rw [z]; exact List.mem_cons_self)).trans e
end
section
variable {P : Program} {w : World} {A : Around} {E : Value → Shared → Prop} {s : Shared}
/-- a new set, its mark as the world has it -/
theorem tx_new (a : Value) {Q₁ : Value → Shared → Prop} (h : Q₁ (.ref s.heap.objs.size) { s with heap := s.heap.push { cls := .type "set", dict := none, data := .set #[] 0 (.fresh 0 0 (!w.params.followText "set-order")) } }) :
    codeAny (model P w) A (.call (.builtin "set.__new__") ⟨[.type "set", a], []⟩) (wants Q₁ E) s := by
  refine codeAny_of_tree (show wpAny _ A.in1 (do checkBuiltinCall "set.__new__" ⟨[.type "set", a], []⟩; again (.builtin "set.__new__" ⟨[.type "set", a], []⟩)) _ _ s from ?_)
  refine wpAny_bind (wpAny_of_eq (PySem.F.newCall_set_1 a) (wpAny_pure ⟨plainId_quiet F.plain_set_new _, codeAny_builtin F.entry_set_new ?_⟩))
  rw [Around.under_plainId F.plain_set_new _]
  unfold Builtin.«set.__new__» Builtin.Frozenset.newClass
  have sub := sub_set_self
  obtain ⟨hp, g, d, tk, os⟩ := s
  dsimp only
  wp_walk
  refine wpAny_askSetting (wpAny_pure ?_)
  dsimp only
  simp only [newObj]
  exact wpAny_bind (wpAny_alloc (wpAny_pure (wpAny_pure h)))
theorem tx_fresh {h : Heap} : SetT P w (h.push { cls := .type "set", dict := none, data := .set #[] 0 (.fresh 0 0 (!w.params.followText "set-order")) }) h.objs.size [] 0 :=
  ⟨_, #[], 0, _, Heap.get?_push_size _ rfl, ⟨rfl, rfl, rfl⟩, rfl, (fun e he => by simp at he), (by simp), (fun k => by simp), (Nat.le_refl _), (by decide), (by rfl), List.Pairwise.nil, by
    show _ ∨ (!w.params.followText "set-order") = true
    cases w.params.followText "set-order" <;> simp⟩
end
end PySem.TX


set_option Elab.async false
set_option linter.all false
set_option maxRecDepth 100000
set_option maxHeartbeats 4000000
namespace PySem.TX
open PySem PySem.Spec PyProof.Rows L2
theorem strs_get : ∀ {us : List Value} {xs : List Str}, StrsAre us xs → ∀ (i : Nat) (v : Value), us[i]? = some v → ∃ x t, xs[i]? = some x ∧ v = .str x t
  | _, _, .nil, i, v, h => by simp at h
  | _, _, .cons x t r, 0, v, h => ⟨x, t, rfl, (Option.some.inj h).symm⟩
  | _, _, .cons x t r, i + 1, v, h => strs_get r i v (by simpa using h)
section
variable {P : Program} {w : World} {A : Around} {E : Value → Shared → Prop} {s : Shared}
set_option maxHeartbeats 8000000 in
/-- set(xs), xs a list of texts -/
theorem tx_call {l : Addr} {items : Array Value} {xs : List Str} {Q : Value → Shared → Prop} (hh : A.handled = none) (hl : s.heap.IsList l items) (hi : StrsAre items.toList xs) (hb : items.size < scanBound)
    (h : ∀ (h' : Heap) (tk : Nat), SetT P w h' s.heap.objs.size xs items.size → (∀ b o, b < s.heap.objs.size → s.heap.get? b = some o → h'.get? b = some o) → Q (.ref s.heap.objs.size) { s with heap := h', toks := tk }) :
    wpAny (model P w) A (call (.type "set") [.ref l]) Q E s := by
  obtain ⟨cc, tl, hmro⟩ := PySem.F.called_set.mro
  have made := PySem.F.called_set.made
  have sub := PySem.F.called_set.sub
  refine wpAny_call (codeAny_of_tree (show wpAny _ _ (callAny (.type "set") _) _ _ _ from ?_))
  refine wpAny_pure ⟨Code.quiet_builtin _ (by decide +kernel), codeAny_builtin PySem.F.entry_type_call ?_⟩
  rw [Around.under_plain (weight_type_call_type "set" [.ref l] []) rfl]
  have no := PySem.F.called_set.notType
  have can := PySem.F.called_set.canCreate
  have chk := PySem.F.typeCall_set_1 (.ref l)
  repeat (any_goals (first | assumption | wp_step))
  let O : Obj := { cls := .type "set", dict := none, data := .set #[] 0 (.fresh 0 0 (!w.params.followText "set-order")) }
  refine codeAny_mono (tx_new (P := P) (w := w) (.ref l) (E := E) (Q₁ := fun obj s₁ => obj = .ref s.heap.objs.size ∧ s₁ = { s with heap := s.heap.push { cls := .type "set", dict := none, data := .set #[] 0 (.fresh 0 0 (!w.params.followText "set-order")) } }) ⟨rfl, rfl⟩) fun r s₁ hr => ?_
  clear O
  cases r with
  | error e => exact hr
  | ok fl =>
    cases fl with
    | ret obj =>
      obtain ⟨rfl, rfl⟩ := hr
      have fr : SetT P w (s.heap.push { cls := .type "set", dict := none, data := .set #[] 0 (.fresh 0 0 (!w.params.followText "set-order")) }) s.heap.objs.size [] 0 := tx_fresh
      have hS : (s.heap.push { cls := .type "set", dict := none, data := .set #[] 0 (.fresh 0 0 (!w.params.followText "set-order")) }).get? s.heap.objs.size = some { cls := .type "set", dict := none, data := .set #[] 0 (.fresh 0 0 (!w.params.followText "set-order")) } := Heap.get?_push_size _ rfl
      generalize (!w.params.followText "set-order") = led at hS fr ⊢
      have hT : Shared.TypeIs { s with heap := s.heap.push { cls := .type "set", dict := none, data := .set #[] 0 (.fresh 0 0 led) } } (.ref s.heap.objs.size) "set" := ⟨_, hS, rfl⟩
      have li := PySem.F.called_set.init.lookup
      have bi := PySem.F.called_set.init.bind (.ref s.heap.objs.size)
      repeat (any_goals (first | assumption | wp_step))
      refine codeAny_mono (codeAny_call_builtin (R := wants (fun r s₂ => r = .none ∧ ∃ h' tk, s₂ = { s with heap := h', toks := tk } ∧ SetT P w h' s.heap.objs.size xs items.size ∧ (∀ b o, b < s.heap.objs.size → s.heap.get? b = some o → h'.get? b = some o)) E) PySem.F.called_set.init.plain PySem.F.entry_set_init (check_set_init_1 hT ?_)) fun r₂ s₂ hr₂ => ?_
      · obtain ⟨ol, hol, hcl, nl, hdl⟩ := hl
        obtain ⟨oc, od, oda, osl⟩ := ol
        simp only at hcl hdl
        subst hcl; subst hdl
        have hol1 : (s.heap.push { cls := .type "set", dict := none, data := .set #[] 0 (.fresh 0 0 led) }).get? l = some { cls := .type "list", dict := od, data := .seq items nl, slots := osl } := Heap.get?_push_of_some _ hol
        have d1 := PySem.F.sub_list_set
        have d2 := PySem.F.sub_list_frozenset
        have d3 : (Value.type "list" == Value.type "dict") = false := by decide
        have hl1 : (s.heap.push { cls := .type "set", dict := none, data := .set #[] 0 (.fresh 0 0 led) }).IsList l items := ⟨_, hol1, rfl, nl, rfl⟩
        unfold Builtin.«set.__init__» noKeywords Builtin.Frozenset.updateFrom
        generalize hPI : pyIter = PI
        wp_walk
        subst hPI
        refine wpAny_pyIter_list hl1 (wpAny_bind (wpAny_runValue ?_))
        have hlS : l < s.heap.objs.size := Heap.lt_size hol
        have h3 : A.in1.in1.in1.handled = none := by simp [hh]
        have ez : (s.heap.push { cls := .type "set", dict := none, data := .set #[] 0 (.fresh 0 0 led) }).objs.size = s.heap.objs.size + 1 := Heap.size_push _ _
        have neI : l ≠ (s.heap.push { cls := .type "set", dict := none, data := .set #[] 0 (.fresh 0 0 led) }).objs.size := by
          rw [ez]
          exact Nat.ne_of_lt (Nat.lt_succ_of_lt hlS)
        have notF : s.heap.objs.size ∉ [(s.heap.push { cls := .type "set", dict := none, data := .set #[] 0 (.fresh 0 0 led) }).objs.size, l] := by
          rw [ez]
          simp only [List.mem_cons, List.not_mem_nil, or_false, not_or]
          exact ⟨Nat.ne_of_lt (Nat.lt_succ_self _), Nat.ne_of_gt hlS⟩
        have hlen : xs.length = items.size := by rw [← StrsAre.len_eq hi, Array.length_toList]
        refine tx_loop (P := P) (w := w) ((Walks.list h3 _ l neI items).toS) s.heap.objs.size notF xs hlen (fun i v hv => strs_get hi i v (by rw [Array.getElem?_toList]; exact hv)) hb (items.size - 0) 0 _ (by omega) (Nat.zero_le _) ⟨⟨_, Heap.get?_push_size _ rfl, rfl, rfl⟩, (hl1.push _)⟩ ?hS0 ?hR
        case hS0 => exact fr.at fun o e => Heap.get?_push_of_some _ e
        case hR =>
          intro s1 hm hS1
          obtain ⟨h1, g1, d1, tk1, os1⟩ := s1
          cases (show g1 = s.gens from hm.gens)
          cases (show d1 = s.drawn from hm.drawn)
          cases (show os1 = s.os from hm.os)
          show wpAny _ _ _ _ _ _
          refine wpAny_pure (show wpAny _ _ (ret Value.none) _ _ _ from wpAny_pure ⟨rfl, h1, tk1, rfl, hS1, fun b o hb1 e => ?_⟩)
          refine hm.heap b o ?_ (Heap.get?_push_of_some _ (Heap.get?_push_of_some _ e))
          rw [ez]
          simp only [List.mem_cons, List.not_mem_nil, or_false, not_or]
          exact ⟨Nat.ne_of_lt hb1, Nat.ne_of_lt (Nat.lt_succ_of_lt hb1)⟩
      · cases r₂ with
        | error e => exact hr₂
        | ok fl₂ =>
          cases fl₂ with
          | ret r =>
            obtain ⟨rfl, h1, tk1, rfl, hS1, hk1⟩ := hr₂
            repeat (any_goals (first | assumption | wp_step))
            exact h _ _ hS1 hk1
          | _ => exact hr₂.elim
    | _ => exact hr.elim
/-- sorted(found) of such a set -/
theorem tx_sorted {a : Addr} {zs : List Str} {n : Nat} {Q : Value → Shared → Prop} (R : SetT P w s.heap a zs n) (hh : A.handled = none)
    (hQ : ∀ s' p (out : Array Value) (c : Nat) (ys : List Str), (∀ b o, s.heap.get? b = some o → s'.heap.get? b = some o) → s'.gens = s.gens → s'.os = s.os → s.heap.objs.size ≤ p → s'.heap.get? p = some (seqObj "list" out c) → StrsAre out.toList ys → sortedS ys = true → ys.Nodup → (∀ k, k ∈ ys ↔ k ∈ zs) → ys.length ≤ n → Q (.ref p) s') :
    wpAny (model P w) A (call (.builtin "sorted") [.ref a]) Q E s := by
  obtain ⟨o, es, ep, t, ho, hex, hd, g, nd, hm, hn, hb, hf, hr, hl⟩ := R
  have esb : es.size < scanBound := Nat.lt_of_le_of_lt hn hb
  refine Calls.call_function_entry kind_sorted plain_sorted entry_sorted (args_sorted1 _) ?_
  unfold Builtin.«sorted»
  refine wpAny_bind (m := checkCount "sorted" 1 1 _) (wpAny_pure (wpAny_bind (L2.collect_set (A := A.in1) hh ⟨o, ho, hex.1, hd⟩ hf esb hr hl fun s1 vs k1 hz g1 o1 pm => ?_)))
  have vl : vs.length ≤ sizeLine := by rw [pm.length_eq, List.length_map, Array.length_toList]; exact fits_of_scanBound esb
  have hS : StrsAre vs (vs.map strOf) := strsAre_map vs fun v hv => by
    obtain ⟨e, he, q⟩ := List.mem_map.mp (pm.mem_iff.mp hv)
    obtain ⟨k, tk, h1, _⟩ := g e he
    exact ⟨k, tk, by rw [← q]; exact h1⟩
  have pk : (vs.map strOf).Perm (es.toList.map txt) := by
    have q := pm.map strOf
    rw [List.map_map] at q
    exact q
  refine wpAny_bind (wpAny_newList ?_ vl)
  have hoL : (s1.heap.push (seqObj "list" vs.toArray 0)).get? s1.heap.objs.size = some (seqObj "list" vs.toArray 0) := Heap.get?_push_size _ rfl
  refine wpAny_bind (wpAny_holding (wpAny_call_entry slot_list_sort ⟨_, hoL, rfl⟩ entry_list_sort (list_sort_treeKAny strKind_oneLt hoL hS.keysOf (fun v1 v2 rest e => keyKind_strs (by rw [← e]; exact hS)) vl fun st a1 a2 => ⟨_, rfl, ?_⟩) (args_list_sort _)))
  obtain ⟨ys, y1, y2, y3⟩ := sorted_out_str hS a1 a2
  obtain ⟨c, hc⟩ := sortedHeap_at (vs := vs) (out := (arrOf st).map (·.2)) hoL
  have pn : ys.Perm (es.toList.map txt) := y2.trans pk
  refine wpAny_pure ⟨_, rfl, hQ _ s1.heap.objs.size _ c ys (fun b u e => ?_) g1 o1 hz hc y1 y3 (pn.nodup_iff.mpr nd) (fun k => by rw [pn.mem_iff, ← hm k]) (by rw [pn.length_eq, List.length_map, Array.length_toList]; exact hn)⟩
  have q := k1 b u e
  have lt := Heap.lt_size q
  show (sortedHeap (s1.heap.push (seqObj "list" vs.toArray 0)) s1.heap.objs.size vs _).get? b = some u
  rw [sortedHeap_old (Nat.ne_of_lt lt) (by rw [size_push']; exact Nat.lt_succ_of_lt lt)]
  exact Heap.get?_push_of_some _ q
end
end PySem.TX


set_option Elab.async false
set_option linter.all false
set_option maxRecDepth 100000
set_option maxHeartbeats 4000000

namespace Vt
open PySem PySem.Spec PyProof.Rows L2 PySem.TX
/-! ### set(xs) and len(set(xs)), xs a list of texts -/
/-- the set of texts at a -/
def SetX (P : Program) (w : World) (a : Addr) (zs : List Str) (n : Nat) : HO := .ext fun h => SetT P w h a zs n
theorem setX_new {w : World} {P : Program} {H : Hp} {h : Heap} {a : Addr} {zs : List Str} {n : Nat} (R : SetT P w h a zs n) : ObjOk P w H h a (SetX P w a zs n) :=
  (fun ⟨o, _, _, _, ho, _⟩ => ⟨R, ⟨o, ho⟩, fun h1 h2 p k => p.at k⟩) R
def rSetTx (K : PySem.W.Frag) (P : Program) (w : World) : List V → Hp → VK → Prop := fun xs H Q => ∃ (l : Addr) (zs : List Str), xs = [V.ref l] ∧ SqL K H l (zs.map V.str) ∧ zs.length < 4000 ∧ ∀ p, H p = none → Q (.ref p) (upd H p (SetX P w p zs zs.length))
def rSortTx (P : Program) (w : World) : List V → Hp → VK → Prop := fun vs H Q => ∃ (a : Addr) (zs : List Str) (n : Nat), vs = [V.ref a] ∧ H a = some (SetX P w a zs n) ∧ n < 4000 ∧ ∀ (ys : List Str) (p : Addr), sortedS ys = true → ys.Nodup → (∀ k, k ∈ ys ↔ k ∈ zs) → H p = none → Q (.ref p) (upd H p (.lst (ys.map V.str)))
def rLenTx (P : Program) (w : World) : List V → Hp → VK → Prop := fun vs H Q => ∃ (a : Addr) (zs : List Str) (n : Nat), vs = [V.ref a] ∧ H a = some (SetX P w a zs n) ∧ zs.Nodup ∧ n < 4000 ∧ Q (.int zs.length) H
section
variable {X : Cx}
theorem cr_setTx (hc : X.calm = true) : CallR X (.type "set") (rSetTx X.K X.prog X.w) := by
  rintro pins s σ H vs us Q I r ⟨l, zs, rfl, hl, hz, q⟩
  obtain ⟨its, rv, pl, _⟩ := I.list hl
  rw [Vals.ref1 r]
  have len := rv.length
  rw [List.length_map] at len
  refine tx_call (P := X.prog) (w := X.w) (I.ok.hd hc) pl.isList rv.strs (by rw [List.size_toArray, ← len]; unfold scanBound; omega) fun h1 tk hS hk => ?_
  have ez : its.toArray.size = zs.length := by rw [List.size_toArray, len]
  rw [ez] at hS
  exact ⟨.ref _, upd H s.heap.objs.size (SetX X.prog X.w s.heap.objs.size zs zs.length), I.laid (t' := tk) (fun b u e => hk b u (Heap.lt_size e) e) (Nat.le_refl _) (setX_new hS), rfl, q _ (I.hok.fresh (Nat.le_refl _))⟩
theorem cr_lenTx : CallR X (.builtin "len") (rLenTx X.prog X.w) := by
  rintro pins s σ H vs us Q I r ⟨a, zs, n, rfl, ha, hnd, hn, q⟩
  have R : SetT X.prog X.w s.heap a zs n := (I.hok a _ ha).1
  rw [Vals.ref1 r]
  obtain ⟨o, es, ep, t, ho, hex, hd, g, nd, hm, hz, hb, hf, hr, hl⟩ := R
  have e : es.size = zs.length := by
    have p : (es.toList.map txt).Perm zs := (List.perm_ext_iff_of_nodup nd hnd).mpr fun k => (hm k).symm
    have := p.length_eq
    rw [List.length_map, Array.length_toList] at this
    exact this
  refine call_len_set ho hex hd hf (by omega) ⟨.int zs.length, H, I.tok _, ⟨_, by rw [e]⟩, q⟩
theorem cr_sortedTx (hc : X.calm = true) : CallR X (.builtin "sorted") (rSortTx X.prog X.w) := by
  rintro pins s σ H vs us Q I r ⟨a, zs, n, rfl, ha, hn, q⟩
  have R : SetT X.prog X.w s.heap a zs n := (I.hok a _ ha).1
  rw [Vals.ref1 r]
  refine tx_sorted R (I.ok.hd hc) fun s1 p out c ys k g o hp hg hi hs hnd hm hl => ?_
  have hlen : (ys.map V.str).length ≤ sizeLine := by rw [List.length_map, sizeLine_eq]; omega
  have free : H p = none := I.hok.fresh hp
  have J : Inv X pins σ (upd H p (.lst (ys.map V.str))) { s with heap := s1.heap, gens := s1.gens, drawn := s1.drawn, toks := s1.toks } :=
    I.call (ch := []) (Un.laid k hp free) (I.hok.laid k hp ⟨hlen, out.toList, c, vals_of_strs hi, hg⟩) (by rw [g]; exact I.bare) (fun _ z => nomatch z)
  have e : s1 = { s with heap := s1.heap, gens := s1.gens, drawn := s1.drawn, toks := s1.toks } := by
    cases s1; cases s; cases o
    rfl
  rw [e]
  exact ⟨.ref p, _, J, rfl, q ys p hs hnd hm free⟩
end
end Vt


set_option Elab.async false
set_option linter.all false
set_option maxRecDepth 100000
set_option maxHeartbeats 4000000

namespace Vt
open PySem PySem.Spec PyProof.Rows L2 TL
/-! ### what is a name, a field, an integer in a range -/
def spIsName : Sp := fun vs H Q _ => ∃ n : Str, vs = [.str n] ∧ isName n ∧ ∀ H', Same H H' → Q (.bl true) H'
def spAsc (K : PySem.W.Frag) : Sp := fun vs H Q _ => ∃ (l : Addr) (ls : List Str), vs = [.ref l] ∧ SqL K H l (ls.map V.str) ∧ ls.length ≤ 12 ∧ (∀ n ∈ ls, isName n) ∧ ls.Pairwise strLt ∧ ∀ H', Same H H' → Q (.bl true) H'
def spAreNames (K : PySem.W.Frag) : Sp := fun vs H Q _ => ∃ (l : Addr) (ls : List Str), vs = [.ref l] ∧ SqL K H l (ls.map V.str) ∧ ls.length ≤ 12 ∧ (∀ n ∈ ls, isName n) ∧ ∀ H', Same H H' → Q (.bl true) H'
def spAreFields (K : PySem.W.Frag) : Sp := fun vs H Q _ => ∃ (l : Addr) (bs : List Addr) (ls : List Str) (us : List V), vs = [.ref l, .int 12] ∧ SqL K H l (bs.map V.ref) ∧ bs.length ≤ 12 ∧ ls.length = bs.length ∧ us.length = bs.length ∧
  (∀ (i : Nat) (b : Addr) (n : Str) (u : V), bs[i]? = some b → ls[i]? = some n → us[i]? = some u → SqT K H b [.str n, u]) ∧ (∀ n ∈ ls, isName n) ∧ ls.Pairwise strLt ∧ ∀ H', Same H H' → Q (.bl true) H'
def spAreItems (K : PySem.W.Frag) : Sp := fun vs H Q _ => ∃ (l : Addr) (xs : List V), vs = [.ref l] ∧ SqL K H l xs ∧ 2 ≤ xs.length ∧ xs.length ≤ 6 ∧ ∀ H', Same H H' → Q (.bl true) H'
def spBegins (K : PySem.W.Frag) : Sp := fun vs H Q _ => ∃ (a : Addr) (xs : List V), vs = [.ref a] ∧ SqT K H a (.str "fun" :: xs) ∧ ∀ H', Same H H' → Q (.bl true) H'
def spIsInt : Sp := fun vs H Q _ => ∃ i : Int, vs = [.int i] ∧ ∀ H', Same H H' → Q (.bl true) H'
def spWithin : Sp := fun vs H Q _ => ∃ i lo hi : Int, vs = [.int i, .int lo, .int hi] ∧ lo ≤ i ∧ i ≤ hi ∧ ∀ H', Same H H' → Q (.bl true) H'
abbrev s_is_integer : Stmt := topS 7
abbrev N_is_integer : List Str := ["value"]
theorem sc_is_integer : FnScope N_is_integer ["value"] (defScope s_is_integer) := ⟨rfl, rfl, rfl, by decide +kernel, rfl, by decide +kernel, by decide +kernel⟩
abbrev s_is_integer_within : Stmt := topS 8
abbrev N_is_integer_within : List Str := ["value", "least", "greatest"]
theorem sc_is_integer_within : FnScope N_is_integer_within ["value", "least", "greatest"] (defScope s_is_integer_within) := ⟨rfl, rfl, rfl, by decide +kernel, rfl, by decide +kernel, by decide +kernel⟩
abbrev s_is_name : Stmt := topS 17
abbrev N_is_name : List Str := ["value"]
theorem sc_is_name : FnScope N_is_name ["value"] (defScope s_is_name) := ⟨rfl, rfl, rfl, by decide +kernel, rfl, by decide +kernel, by decide +kernel⟩
abbrev s_are_names : Stmt := topS 18
abbrev N_are_names : List Str := ["values", "value", "letters"]
theorem sc_are_names : FnScope N_are_names ["values"] (defScope s_are_names) := ⟨rfl, rfl, rfl, by decide +kernel, rfl, by decide +kernel, by decide +kernel⟩
abbrev s_are_ascending : Stmt := topS 19
abbrev N_are_ascending : List Str := ["names"]
theorem sc_are_ascending : FnScope N_are_ascending ["names"] (defScope s_are_ascending) := ⟨rfl, rfl, rfl, by decide +kernel, rfl, by decide +kernel, by decide +kernel⟩
abbrev s_are_fields : Stmt := topS 20
abbrev N_are_fields : List Str := ["value", "most", "names", "field"]
theorem sc_are_fields : FnScope N_are_fields ["value", "most"] (defScope s_are_fields) := ⟨rfl, rfl, rfl, by decide +kernel, rfl, by decide +kernel, by decide +kernel⟩
abbrev s_are_items : Stmt := topS 21
abbrev N_are_items : List Str := ["value"]
theorem sc_are_items : FnScope N_are_items ["value"] (defScope s_are_items) := ⟨rfl, rfl, rfl, by decide +kernel, rfl, by decide +kernel, by decide +kernel⟩
abbrev s_begins_as_function : Stmt := topS 22
abbrev N_begins_as_function : List Str := ["value"]
theorem sc_begins_as_function : FnScope N_begins_as_function ["value"] (defScope s_begins_as_function) := ⟨rfl, rfl, rfl, by decide +kernel, rfl, by decide +kernel, by decide +kernel⟩
section
variable {P : Program} {w : World} {K : PySem.W.Frag} {mg : Str → Option Value} {base : Heap}
theorem ok_is_integer (S : Stands K mg "is_integer" s_is_integer ["value"]) (Z : Blt mg) : DefOk P w K mg base CX0 1 "is_integer" ["value"] spIsInt := by
  have z_isinstance := Z.isinstance
  have z_int := Z.int
  have z_bool := Z.bool
  obtain ⟨f, fd, F, hm, hb⟩ := S
  refine ⟨f, fd, ?_, hm, F.kp, hb⟩
  have nd := sc_is_integer.nd
  refine F.ok sc_is_integer (fun vs H Q E h => ?_) (fun cdv A outer s0 H vs Q E hr h => ?_)
  · obtain ⟨i, rfl, _⟩ := h
    rfl
  obtain ⟨i, rfl, q⟩ := h
  refine ⟨_, (pss_one (ps_ret (pe_and (pe_callB call_isi (by rfl) z_isinstance (by decide +kernel) (pa_cons (pv 0) (pa_cons (pe_bltn (v := .ty "int") (by rfl) z_int (by decide +kernel) rfl) pa_nil))) (pe_one (pe_not (pe_callB call_isi (by rfl) z_isinstance (by decide +kernel) (pa_cons (pv 0) (pa_cons (pe_bltn (v := .ty "bool") (by rfl) z_bool (by decide +kernel) rfl) pa_nil)))))))), ?_⟩
  walk_at "rd"
  refine ⟨_, .ty "int", _, _, true, rfl, .ty "int", .base (.int i), kit_ty (by decide +kernel), _, rfl, ?_⟩
  refine ifT rfl ?_
  walk_at "rd"
  refine ⟨_, .ty "bool", _, _, false, rfl, .ty "bool", .base (.int i), kit_ty (by decide +kernel), _, rfl, ?_⟩
  exact q H (Same.refl _)
theorem ok_is_integer_within (S : Stands K mg "is_integer_within" s_is_integer_within ["value", "least", "greatest"]) (Z : Blt mg) (H_is_integer : DefOk P w K mg base CX0 1 "is_integer" ["value"] spIsInt) : DefOk P w K mg base CX0 2 "is_integer_within" ["value", "least", "greatest"] spWithin := by
  obtain ⟨f, fd, F, hm, hb⟩ := S
  obtain ⟨f_is_integer, fd_is_integer, G_is_integer, m_is_integer, k_is_integer, b_is_integer⟩ := H_is_integer
  refine ⟨f, fd, ?_, hm, F.kp, hb⟩
  have nd := sc_is_integer_within.nd
  refine F.ok sc_is_integer_within (fun vs H Q E h => ?_) (fun cdv A outer s0 H vs Q E hr h => ?_)
  · obtain ⟨i, lo, hi, rfl, _⟩ := h
    rfl
  obtain ⟨i, lo, hi, rfl, h1, h2, q⟩ := h
  refine ⟨_, (pss_one (ps_ret (pe_and (pe_call G_is_integer (hr.mono (by decide)) rfl m_is_integer k_is_integer b_is_integer .nil pass0 (pa_cons (pv 0) pa_nil)) (pe_one (pe_chain op_le op_le (pv 1) (pv 0) (pv 2)))))), ?_⟩
  walk_at "rd"
  intro H1 S1
  refine ⟨_, rfl, ifT rfl ?_⟩
  walk_at "rd"
  rw [decide_eq_true h1]
  refine ifT rfl ?_
  walk_at "rd"
  refine (show Q (.bl (decide (i ≤ hi))) H1 from ?_)
  rw [decide_eq_true h2]
  exact q H1 S1
theorem ok_is_name (S : Stands K mg "is_name" s_is_name ["value"]) (Z : Blt mg) (C : Cst mg) : DefOk P w K mg base CX0 1 "is_name" ["value"] spIsName := by
  have z_isinstance := Z.isinstance
  have z_len := Z.len
  have z_str := Z.str
  obtain ⟨t8, c_MOST_LETTERS⟩ := C.letters
  have c_MOST_LETTERS_r := @rel_int 8 t8
  obtain ⟨f, fd, F, hm, hb⟩ := S
  refine ⟨f, fd, ?_, hm, F.kp, hb⟩
  have nd := sc_is_name.nd
  refine F.ok sc_is_name (fun vs H Q E h => ?_) (fun cdv A outer s0 H vs Q E hr h => ?_)
  · obtain ⟨n, rfl, _⟩ := h
    rfl
  obtain ⟨n, rfl, hn, q⟩ := h
  refine ⟨_, (pss_cons (ps_if (PW.pt (pw_or (pt_not (pt_val (pe_callB call_isi (by rfl) z_isinstance (by decide +kernel) (pa_cons (pv 0) (pa_cons (pe_bltn (v := .ty "str") (by rfl) z_str (by decide +kernel) rfl) pa_nil))))) (pw_or1 (pt_not (pt_chain op_le op_le pe_int (pe_callB call_len_str (by rfl) z_len (by decide +kernel) (pa_cons (pv 0) pa_nil)) (pe_glob rfl c_MOST_LETTERS c_MOST_LETTERS_r)))))) (pss_one (ps_ret pe_bl)) pss_nil)
      (pss_one (ps_ret (pe_and (pe_bm0 PySem.F.plainAttrs_str PySem.F.slot_str_isascii PySem.F.type_str_isascii mt_isascii (pv 0)) (pe_and (pe_bm0 PySem.F.plainAttrs_str PySem.F.slot_str_isalpha PySem.F.type_str_isalpha mt_isalpha (pv 0)) (pe_one (pe_bm0 PySem.F.plainAttrs_str PySem.F.slot_str_islower PySem.F.type_str_islower mt_islower (pv 0)))))))), ?_⟩
  walk_at "rd"
  refine ⟨_, .ty "str", _, _, true, rfl, .ty "str", .base (.str n), kit_ty (by decide +kernel), _, rfl, ?_⟩
  refine ifF rfl ?_
  walk_at "rd"
  have hlen := hn.1
  have hlen8 := hn.2.1
  refine ⟨sz (by omega), ?_⟩
  walk_at "rd"
  rw [decide_eq_true (show (1 : Int) ≤ ((n.length : Nat) : Int) by omega)]
  refine ifT rfl ?_
  walk_at "rd"
  refine ifF (by rw [decide_eq_true (show ((n.length : Nat) : Int) ≤ 8 by omega)]; rfl) ?_
  walk_at "rd"
  rw [name_ascii hn]
  refine ifT rfl ?_
  walk_at "rd"
  rw [name_alpha hn]
  refine ifT rfl ?_
  walk_at "rd"
  rw [name_lower hn]
  exact q H (Same.refl _)
theorem ok_are_names (S : Stands K mg "are_names" s_are_names ["values"]) (Z : Blt mg) (C : Cst mg) : DefOk P w K mg base CX0 1 "are_names" ["values"] (spAreNames K) := by
  have z_isinstance := Z.isinstance
  have z_len := Z.len
  have z_str := Z.str
  obtain ⟨t8, c_MOST_LETTERS⟩ := C.letters
  have c_MOST_LETTERS_r := @rel_int 8 t8
  obtain ⟨f, fd, F, hm, hb⟩ := S
  refine ⟨f, fd, ?_, hm, F.kp, hb⟩
  have nd := sc_are_names.nd
  refine F.ok sc_are_names (fun vs H Q E h => ?_) (fun cdv A outer s0 H vs Q E hr h => ?_)
  · obtain ⟨l, ls, rfl, _⟩ := h
    rfl
  obtain ⟨l, ls, rfl, hl, h12, hn, q⟩ := h
  refine ⟨_, (pss_cons (ps_for PassesOwn.never rfl (pi_list (pv 0)) (pg_name (i := 1) nd rfl (Or.inl rfl)) (pss_one (ps_if (PW.pt (pw_or (pt_not (pt_val (pe_callB call_isi (by rfl) z_isinstance (by decide +kernel) (pa_cons (pv 1) (pa_cons (pe_bltn (v := .ty "str") (by rfl) z_str (by decide +kernel) rfl) pa_nil))))) (pw_or1 (pt_not (pt_chain op_le op_le pe_int (pe_callB call_len_str (by rfl) z_len (by decide +kernel) (pa_cons (pv 1) pa_nil)) (pe_glob rfl c_MOST_LETTERS c_MOST_LETTERS_r)))))) (pss_one (ps_ret pe_bl)) pss_nil)))
      (pss_cons (ps_set (i := 2) nd rfl (Or.inl rfl) (pe_bm PySem.F.plainAttrs_str PySem.F.slot_str_join PySem.F.type_str_join mt_join pe_str (pa_cons (pv 0) pa_nil)))
      (pss_one (ps_ret (pe_or (pe_cmpR op_eq (pv 2) pe_str (nomark _)) (pe_one (pe_and (pe_bm0 PySem.F.plainAttrs_str PySem.F.slot_str_isascii PySem.F.type_str_isascii mt_isascii (pv 2)) (pe_and (pe_bm0 PySem.F.plainAttrs_str PySem.F.slot_str_isalpha PySem.F.type_str_isalpha mt_isalpha (pv 2)) (pe_one (pe_bm0 PySem.F.plainAttrs_str PySem.F.slot_str_islower PySem.F.type_str_islower mt_islower (pv 2))))))))))), ?_⟩
  walk_at "rd"
  refine ⟨⟨_, hl⟩, ?_⟩
  refine for_list (K := K) (a := l) (xs := ls.map V.str) (fun i σ X => ∃ s1 : Option V, σ = [some (.ref l), s1, none] ∧ X = H) ⟨none, rfl, rfl⟩ (fun i σ X hi ⟨_, _, g⟩ => by rw [g]; exact hl) ?_ ?_
  · rintro i x σ X hx ⟨s1, rfl, rfl⟩
    obtain ⟨n, hb1, hb2, rfl⟩ := get_map hx
    have hnn := hn n (List.mem_of_getElem? hb2)
    have hlen := hnn.1
    have hlen8 := hnn.2.1
    refine ⟨_, rfl, ?_⟩
    walk_at "rd"
    refine ⟨_, .ty "str", _, _, true, rfl, .ty "str", .base (.str n), kit_ty (by decide +kernel), _, rfl, ?_⟩
    refine ifF rfl ?_
    walk_at "rd"
    refine ⟨sz (by omega), ?_⟩
    walk_at "rd"
    rw [decide_eq_true (show (1 : Int) ≤ ((n.length : Nat) : Int) by omega)]
    refine ifT rfl ?_
    walk_at "rd"
    refine ifF (by rw [decide_eq_true (show ((n.length : Nat) : Int) ≤ 8 by omega)]; rfl) ?_
    exact ⟨_, rfl, rfl⟩
  · rintro σ X ⟨s1, rfl, rfl⟩
    walk_at "rd"
    have hsum : (ls.map (·.length)).sum ≤ 12 * 8 := by
      have z : ∀ ks : List Str, (∀ n ∈ ks, isName n) → (ks.map (·.length)).sum ≤ ks.length * 8 := fun ks => by
        induction ks with
        | nil => intro _; simp
        | cons x r ih =>
          intro h
          have h1 := (h x List.mem_cons_self).2.1
          have h2 := ih fun y m => h y (List.mem_cons_of_mem _ m)
          simp only [List.map_cons, List.sum_cons, List.length_cons, Nat.succ_mul]
          omega
      have z1 := z ls hn
      have z2 := Nat.mul_le_mul_right 8 h12
      omega
    refine ⟨_, l, ls, rfl, rfl, .inl hl, by show (ls.map (·.length)).sum + ls.length * 0 ≤ 16777216; omega, ?_⟩
    have hlow := low_join ls fun n m => (hn n m).2.2
    have hpos : ls ≠ [] → 1 ≤ (Txt.join "" ls).length := fun h => join_pos h fun n m => (hn n m).1
    have hnil : ls = [] → Txt.join "" ls = "" := fun h => by rw [h, join_eq]; rfl
    change gName 2 (V.str (Txt.join "" ls)) _ _ _
    generalize Txt.join "" ls = letters at *
    walk_at "rd"
    by_cases e : ls = []
    · rw [hnil e]
      refine ifT (decide_eq_true rfl) ?_
      exact q _ (Same.refl _)
    · have h1 := hpos e
      refine ifF (decide_eq_false fun z => by rw [V.str.inj z] at h1; exact absurd h1 (by decide)) ?_
      walk_at "rd"
      rw [low_ascii hlow]
      refine ifT rfl ?_
      walk_at "rd"
      rw [low_alpha hlow h1]
      refine ifT rfl ?_
      walk_at "rd"
      rw [low_lower hlow h1]
      exact q _ (Same.refl _)
theorem ok_are_ascending (S : Stands K mg "are_ascending" s_are_ascending ["names"]) (Z : Blt mg) : DefOk P w K mg base CX0 1 "are_ascending" ["names"] (spAsc K) := by
  have z_sorted := Z.sorted
  have z_set := Z.set
  have z_len := Z.len
  obtain ⟨f, fd, F, hm, hb⟩ := S
  refine ⟨f, fd, ?_, hm, F.kp, hb⟩
  have nd := sc_are_ascending.nd
  refine F.ok sc_are_ascending (fun vs H Q E h => ?_) (fun cdv A outer s0 H vs Q E hr h => ?_)
  · obtain ⟨l, ls, rfl, _⟩ := h
    rfl
  obtain ⟨l, ls, rfl, hl, h12, hn, hp, q⟩ := h
  refine ⟨_, (pss_one (ps_ret (pe_and (pe_cmpR (op_eqD hr.units) (pe_callB cr_sortedS (by rfl) z_sorted (by decide +kernel) (pa_cons (pv 0) pa_nil)) (pv 0) (nomark _)) (pe_one (pe_cmpR op_eq (pe_callB cr_lenTx (by rfl) z_len (by decide +kernel) (pa_cons (pe_callTy (cr_setTx rfl) (by rfl) z_set (by decide +kernel) (pa_cons (pv 0) pa_nil)) pa_nil)) (pe_callB call_len_seq (by rfl) z_len (by decide +kernel) (pa_cons (pv 0) pa_nil)) (nomark _)))))), ?_⟩
  walk_at "rd"
  refine ⟨l, ls, rfl, hl, by omega, fun ys p hy hs hp1 => ?_⟩
  rw [asc_sorted hy hs hp]
  walk_at "rd"
  refine ⟨.list (ls.map .str), .list (ls.map .str), .lst (SqL.of upd_same) (dpStrs ls), .lst ((same_new hp1 _).seq hl) (dpStrs ls), strs_shaped ls hn, strs_shaped ls hn, ?_⟩
  rw [SeqAt.eqv_refl _ (SeqAt.canLay_of_shaped (strs_shaped ls hn))]
  refine ⟨_, rfl, ifT rfl ?_⟩
  walk_at "rd"
  refine ⟨l, ls, rfl, (same_new hp1 _).seq hl, by omega, fun p2 hp2 => ?_⟩
  walk_at "rd"
  refine ⟨p2, ls, _, rfl, upd_same, asc_nodup hp, by omega, ?_⟩
  walk_at "rd"
  have S2 := (same_new hp1 (.lst (ls.map V.str))).trans (same_new hp2 (SetX P w p2 ls ls.length))
  refine ⟨l, _, rfl, .inl (S2.seq hl), ?_⟩
  walk_at "rd"
  rw [List.length_map, decide_eq_true rfl]
  exact q _ S2
theorem ok_are_fields (S : Stands K mg "are_fields" s_are_fields ["value", "most"]) (Z : Blt mg) (H_are_names : DefOk P w K mg base CX0 1 "are_names" ["values"] (spAreNames K)) (H_are_ascending : DefOk P w K mg base CX0 1 "are_ascending" ["names"] (spAsc K)) : DefOk P w K mg base CX0 3 "are_fields" ["value", "most"] (spAreFields K) := by
  have z_isinstance := Z.isinstance
  have z_list := Z.list
  have z_tuple := Z.tuple
  have z_len := Z.len
  obtain ⟨f, fd, F, hm, hb⟩ := S
  obtain ⟨f_are_names, fd_are_names, G_are_names, m_are_names, k_are_names, b_are_names⟩ := H_are_names
  obtain ⟨f_are_ascending, fd_are_ascending, G_are_ascending, m_are_ascending, k_are_ascending, b_are_ascending⟩ := H_are_ascending
  refine ⟨f, fd, ?_, hm, F.kp, hb⟩
  have nd := sc_are_fields.nd
  refine F.ok sc_are_fields (fun vs H Q E h => ?_) (fun cdv A outer s0 H vs Q E hr h => ?_)
  · obtain ⟨l, bs, ls, us, rfl, _⟩ := h
    rfl
  obtain ⟨l, bs, ls, us, rfl, hl, h12, hls, hus, hf, hn, hp, q⟩ := h
  refine ⟨_, (pss_cons (ps_if (PW.pt (pw_or (pt_not (pt_val (pe_callB call_isi (by rfl) z_isinstance (by decide +kernel) (pa_cons (pv 0) (pa_cons (pe_bltn (v := .ty "list") (by rfl) z_list (by decide +kernel) rfl) pa_nil))))) (pw_or1 (pt_cmpR op_gt (pe_callB call_len_seq (by rfl) z_len (by decide +kernel) (pa_cons (pv 0) pa_nil)) (pv 1) (nomark _))))) (pss_one (ps_ret pe_bl)) pss_nil)
      (pss_cons (ps_set (i := 2) nd rfl (Or.inl rfl) (pe_lst pa_nil))
      (pss_cons (ps_for PassesOwn.never rfl (pi_list (pv 0)) (pg_name (i := 3) nd rfl (Or.inl rfl)) (pss_cons (ps_if (PW.pt (pw_or (pt_not (pt_val (pe_callB call_isi (by rfl) z_isinstance (by decide +kernel) (pa_cons (pv 3) (pa_cons (pe_bltn (v := .ty "tuple") (by rfl) z_tuple (by decide +kernel) rfl) pa_nil))))) (pw_or1 (pt_cmpR op_ne (pe_callB call_len_seq (by rfl) z_len (by decide +kernel) (pa_cons (pv 3) pa_nil)) pe_int (nomark _))))) (pss_one (ps_ret pe_bl)) pss_nil)
      (pss_one (ps_expr (pe_bm PySem.F.plainAttrs_list PySem.F.slot_list_append PySem.F.type_list_append mt_append (pv 2) (pa_cons (pe_ix ix_tup (pv 3) pe_int (fun _ _ => rfl)) pa_nil))))))
      (pss_one (ps_ret (pe_and (pe_call G_are_names (hr.mono (by decide)) rfl m_are_names k_are_names b_are_names .nil pass0 (pa_cons (pv 2) pa_nil)) (pe_one (pe_call G_are_ascending (hr.mono (by decide)) rfl m_are_ascending k_are_ascending b_are_ascending .nil pass0 (pa_cons (pv 2) pa_nil))))))))), ?_⟩
  walk_at "rd"
  refine ⟨_, .ty "list", _, _, true, rfl, .ty "list", tyL hl, kit_ty (by decide +kernel), _, rfl, ?_⟩
  refine ifF rfl ?_
  walk_at "rd"
  refine ⟨l, _, rfl, .inl hl, ?_⟩
  walk_at "rd"
  refine ifF (decide_eq_false (by rw [List.length_map]; omega)) ?_
  walk_at "rd"
  intro D hD
  have S0 := same_new hD (.lst [])
  have g0 := @upd_same H D (.lst [])
  generalize upd H D (.lst []) = H0 at *
  walk_at "rd"
  refine ⟨⟨_, S0.seq hl⟩, ?_⟩
  refine for_list (K := K) (a := l) (xs := bs.map V.ref) (fun i σ X => ∃ s3 : Option V, σ = [some (.ref l), some (.int 12), some (.ref D), s3] ∧ Same H X ∧ X D = some (.lst ((ls.take i).map V.str))) ⟨none, rfl, S0, g0⟩ (fun i σ X hi ⟨_, _, g, _⟩ => g.seq hl) ?_ ?_
  · rintro i x σ X hx ⟨s3, rfl, g, gD⟩
    obtain ⟨b, hb1, hb2, rfl⟩ := get_map hx
    have hi := (List.getElem?_eq_some_iff.mp hb2).1
    have e1 : ls[i]? = some (ls[i]'(by omega)) := List.getElem?_eq_getElem (by omega)
    have e2 : us[i]? = some (us[i]'(by omega)) := List.getElem?_eq_getElem (by omega)
    have ht := g.tupS (hf i b _ _ hb2 e1 e2)
    refine ⟨_, rfl, ?_⟩
    walk_at "rd"
    refine ⟨_, .ty "tuple", _, _, true, rfl, .ty "tuple", tyT ht, kit_ty (by decide +kernel), _, rfl, ?_⟩
    refine ifF rfl ?_
    walk_at "rd"
    refine ⟨b, _, rfl, .inr ht, ?_⟩
    walk_at "rd"
    walk_at "rd"
    refine ⟨.inl ⟨rfl, _, SqL.of gD⟩, ?_⟩
    walk_at "rd"
    refine ⟨D, _, _, rfl, rfl, gD, small1000 (by rw [List.length_map, List.length_take]; omega), ?_⟩
    refine ⟨_, rfl, fun c o e => ?_, ?_⟩
    · have n1 : c ≠ D := fun z => by rw [z, hD] at e; cases e
      rw [upd_ne n1]
      exact g c o e
    · rw [upd_same, List.take_add_one, e1, List.map_append]
      rfl
  · rintro σ X ⟨s3, rfl, g, gD⟩
    rw [List.length_map, List.take_of_length_le (by omega)] at gD
    walk_at "rd"
    refine ⟨D, ls, rfl, SqL.of gD, by omega, hn, fun H2 S2 => ?_⟩
    refine ⟨_, rfl, ifT rfl ?_⟩
    walk_at "rd"
    exact ⟨D, ls, rfl, SqL.of (S2 _ _ gD), by omega, hn, hp, fun H3 S3 => q H3 ((g.trans S2).trans S3)⟩
theorem ok_are_items (S : Stands K mg "are_items" s_are_items ["value"]) (Z : Blt mg) (C : Cst mg) : DefOk P w K mg base CX0 1 "are_items" ["value"] (spAreItems K) := by
  have z_isinstance := Z.isinstance
  have z_list := Z.list
  have z_len := Z.len
  obtain ⟨t2, c_LEAST_ITEMS⟩ := C.least
  have c_LEAST_ITEMS_r := @rel_int 2 t2
  obtain ⟨t6, c_MOST_ITEMS⟩ := C.items
  have c_MOST_ITEMS_r := @rel_int 6 t6
  obtain ⟨f, fd, F, hm, hb⟩ := S
  refine ⟨f, fd, ?_, hm, F.kp, hb⟩
  have nd := sc_are_items.nd
  refine F.ok sc_are_items (fun vs H Q E h => ?_) (fun cdv A outer s0 H vs Q E hr h => ?_)
  · obtain ⟨l, xs, rfl, _⟩ := h
    rfl
  obtain ⟨l, xs, rfl, hl, h2, h6, q⟩ := h
  refine ⟨_, (pss_one (ps_ret (pe_and (pe_callB call_isi (by rfl) z_isinstance (by decide +kernel) (pa_cons (pv 0) (pa_cons (pe_bltn (v := .ty "list") (by rfl) z_list (by decide +kernel) rfl) pa_nil))) (pe_one (pe_chain op_le op_le (pe_glob rfl c_LEAST_ITEMS c_LEAST_ITEMS_r) (pe_callB call_len_seq (by rfl) z_len (by decide +kernel) (pa_cons (pv 0) pa_nil)) (pe_glob rfl c_MOST_ITEMS c_MOST_ITEMS_r)))))), ?_⟩
  walk_at "rd"
  refine ⟨_, .ty "list", _, _, true, rfl, .ty "list", tyL hl, kit_ty (by decide +kernel), _, rfl, ?_⟩
  refine ifT rfl ?_
  walk_at "rd"
  refine ⟨l, _, rfl, .inl hl, ?_⟩
  walk_at "rd"
  rw [decide_eq_true (show (2 : Int) ≤ ((xs.length : Nat) : Int) by omega)]
  refine ifT rfl ?_
  walk_at "rd"
  refine (show Q (.bl (decide (((xs.length : Nat) : Int) ≤ 6))) H from ?_)
  rw [decide_eq_true (show ((xs.length : Nat) : Int) ≤ 6 by omega)]
  exact q H (Same.refl _)
theorem ok_begins (S : Stands K mg "begins_as_function" s_begins_as_function ["value"]) (Z : Blt mg) : DefOk P w K mg base CX0 1 "begins_as_function" ["value"] (spBegins K) := by
  have z_isinstance := Z.isinstance
  have z_tuple := Z.tuple
  have z_len := Z.len
  obtain ⟨f, fd, F, hm, hb⟩ := S
  refine ⟨f, fd, ?_, hm, F.kp, hb⟩
  have nd := sc_begins_as_function.nd
  refine F.ok sc_begins_as_function (fun vs H Q E h => ?_) (fun cdv A outer s0 H vs Q E hr h => ?_)
  · obtain ⟨a, xs, rfl, _⟩ := h
    rfl
  obtain ⟨a, xs, rfl, ha, q⟩ := h
  refine ⟨_, (pss_one (ps_ret (pe_and (pe_callB call_isi (by rfl) z_isinstance (by decide +kernel) (pa_cons (pv 0) (pa_cons (pe_bltn (v := .ty "tuple") (by rfl) z_tuple (by decide +kernel) rfl) pa_nil))) (pe_and (pe_cmpR op_gt (pe_callB call_len_seq (by rfl) z_len (by decide +kernel) (pa_cons (pv 0) pa_nil)) pe_int (nomark _)) (pe_one (pe_cmpR op_eq (pe_ix ix_tup (pv 0) pe_int (fun _ _ => rfl)) pe_str (nomark _))))))), ?_⟩
  walk_at "rd"
  refine ⟨_, .ty "tuple", _, _, true, rfl, .ty "tuple", tyT ha, kit_ty (by decide +kernel), _, rfl, ?_⟩
  refine ifT rfl ?_
  walk_at "rd"
  refine ⟨a, _, rfl, .inr ha, ?_⟩
  walk_at "rd"
  rw [decide_eq_true (show (0 : Int) < (((V.str "fun" :: xs).length : Nat) : Int) by rw [List.length_cons]; omega)]
  refine ifT rfl ?_
  walk_at "rd"
  refine ⟨a, _, _, _, rfl, rfl, ha, at0, ?_⟩
  walk_at "rd"
  exact q H (Same.refl _)
end
end Vt


set_option Elab.async false
set_option linter.all false
set_option maxRecDepth 100000
set_option maxHeartbeats 4000000

namespace Vt
open PySem PySem.Spec PyProof.Rows L2
/-! ### the terms within a node, kind by kind -/
/-- a list or a tuple: of the term itself, or new -/
def Nw (K : PySem.W.Frag) (G0 H H' : Hp) (r : Addr) (us : List V) : Prop := Sq K G0 r us ∨ (H r = none ∧ (H' r = some (.lst us) ∨ H' r = some (.tup us)))
theorem Nw.sq {K : PySem.W.Frag} {G0 H H' : Hp} {r : Addr} {us : List V} (h : Nw K G0 H H' r us) (s : Same G0 H') : Sq K H' r us := by
  rcases h with h | ⟨_, h | h⟩
  · exact h.same s
  · exact .inl (SqL.of h)
  · exact .inr (SqT.of h)
def spIn (K : PySem.W.Frag) (wd : Str) : Sp := fun vs H Q _ => ∃ (v : V) (t : T) (G0 : Hp), vs = [v] ∧ t.hd.word = wd ∧ Same G0 H ∧ Tm K G0 v t ∧ Wt t ∧
  ∀ (r : Addr) (H' : Hp) (us : List V), Same H H' → Nw K G0 H H' r us → Al (fun u k => Tm K G0 u k) us t.kids → Q (.ref r) H'
theorem al0 {α β : Type} {R : α → β → Prop} : Al R [] [] := Al.nil
theorem al1 {α β : Type} {R : α → β → Prop} {a : α} {b : β} (h : R a b) : Al R [a] [b] := Al.snoc (xs := []) (ys := []) Al.nil h
theorem al2 {α β : Type} {R : α → β → Prop} {a a2 : α} {b b2 : β} (h : R a b) (h2 : R a2 b2) : Al R [a, a2] [b, b2] := Al.snoc (xs := [a]) (ys := [b]) (al1 h) h2
theorem al3 {α β : Type} {R : α → β → Prop} {a a2 a3 : α} {b b2 b3 : β} (h : R a b) (h2 : R a2 b2) (h3 : R a3 b3) : Al R [a, a2, a3] [b, b2, b3] := Al.snoc (xs := [a, a2]) (ys := [b, b2]) (al2 h h2) h3
/-- of a rec the first term within is a function's tuple -/
theorem fn_of {K : PySem.W.Frag} {H : Hp} {n : Str} {v : V} {t : T} {r : List T} (o : okRec (.rc n) (t :: r)) (h : Tm K H v t) : ∃ b ys, v = .ref b ∧ SqT K H b (.str "fun" :: ys) := by
  cases h with
  | fn h1 _ => exact ⟨_, _, rfl, h1⟩
  | _ => exact False.elim o
abbrev s_inner_of_var : Stmt := topS 23
abbrev N_inner_of_var : List Str := ["node"]
theorem sc_inner_of_var : FnScope N_inner_of_var ["node"] (defScope s_inner_of_var) := ⟨rfl, rfl, rfl, by decide +kernel, rfl, by decide +kernel, by decide +kernel⟩
abbrev s_inner_of_int : Stmt := topS 24
abbrev N_inner_of_int : List Str := ["node"]
theorem sc_inner_of_int : FnScope N_inner_of_int ["node"] (defScope s_inner_of_int) := ⟨rfl, rfl, rfl, by decide +kernel, rfl, by decide +kernel, by decide +kernel⟩
abbrev s_inner_of_bool : Stmt := topS 25
abbrev N_inner_of_bool : List Str := ["node"]
theorem sc_inner_of_bool : FnScope N_inner_of_bool ["node"] (defScope s_inner_of_bool) := ⟨rfl, rfl, rfl, by decide +kernel, rfl, by decide +kernel, by decide +kernel⟩
abbrev s_inner_of_fun : Stmt := topS 26
abbrev N_inner_of_fun : List Str := ["node"]
theorem sc_inner_of_fun : FnScope N_inner_of_fun ["node"] (defScope s_inner_of_fun) := ⟨rfl, rfl, rfl, by decide +kernel, rfl, by decide +kernel, by decide +kernel⟩
abbrev s_inner_of_app : Stmt := topS 27
abbrev N_inner_of_app : List Str := ["node"]
theorem sc_inner_of_app : FnScope N_inner_of_app ["node"] (defScope s_inner_of_app) := ⟨rfl, rfl, rfl, by decide +kernel, rfl, by decide +kernel, by decide +kernel⟩
abbrev s_inner_of_let : Stmt := topS 28
abbrev N_inner_of_let : List Str := ["node"]
theorem sc_inner_of_let : FnScope N_inner_of_let ["node"] (defScope s_inner_of_let) := ⟨rfl, rfl, rfl, by decide +kernel, rfl, by decide +kernel, by decide +kernel⟩
abbrev s_inner_of_rec : Stmt := topS 29
abbrev N_inner_of_rec : List Str := ["node"]
theorem sc_inner_of_rec : FnScope N_inner_of_rec ["node"] (defScope s_inner_of_rec) := ⟨rfl, rfl, rfl, by decide +kernel, rfl, by decide +kernel, by decide +kernel⟩
abbrev s_inner_of_if : Stmt := topS 30
abbrev N_inner_of_if : List Str := ["node"]
theorem sc_inner_of_if : FnScope N_inner_of_if ["node"] (defScope s_inner_of_if) := ⟨rfl, rfl, rfl, by decide +kernel, rfl, by decide +kernel, by decide +kernel⟩
abbrev s_inner_of_tuple : Stmt := topS 31
abbrev N_inner_of_tuple : List Str := ["node"]
theorem sc_inner_of_tuple : FnScope N_inner_of_tuple ["node"] (defScope s_inner_of_tuple) := ⟨rfl, rfl, rfl, by decide +kernel, rfl, by decide +kernel, by decide +kernel⟩
abbrev s_inner_of_part : Stmt := topS 32
abbrev N_inner_of_part : List Str := ["node"]
theorem sc_inner_of_part : FnScope N_inner_of_part ["node"] (defScope s_inner_of_part) := ⟨rfl, rfl, rfl, by decide +kernel, rfl, by decide +kernel, by decide +kernel⟩
abbrev s_inner_of_record : Stmt := topS 33
abbrev N_inner_of_record : List Str := ["node", "_", "term"]
theorem sc_inner_of_record : FnScope N_inner_of_record ["node"] (defScope s_inner_of_record) := ⟨rfl, rfl, rfl, by decide +kernel, rfl, by decide +kernel, by decide +kernel⟩
abbrev s_inner_of_field : Stmt := topS 34
abbrev N_inner_of_field : List Str := ["node"]
theorem sc_inner_of_field : FnScope N_inner_of_field ["node"] (defScope s_inner_of_field) := ⟨rfl, rfl, rfl, by decide +kernel, rfl, by decide +kernel, by decide +kernel⟩
abbrev s_inner_of_with : Stmt := topS 35
abbrev N_inner_of_with : List Str := ["node"]
theorem sc_inner_of_with : FnScope N_inner_of_with ["node"] (defScope s_inner_of_with) := ⟨rfl, rfl, rfl, by decide +kernel, rfl, by decide +kernel, by decide +kernel⟩
section
variable {P : Program} {w : World} {K : PySem.W.Frag} {mg : Str → Option Value} {base : Heap}
theorem ok_in_var (S : Stands K mg "inner_of_var" s_inner_of_var ["node"]) (Z : Blt mg) (C : Cst mg) (H_is_name : DefOk P w K mg base CX0 1 "is_name" ["value"] spIsName) : DefOk P w K mg base CX0 4 "inner_of_var" ["node"] (spIn K "var") := by
  have z_len := Z.len
  obtain ⟨f, fd, F, hm, hb⟩ := S
  obtain ⟨f_is_name, fd_is_name, G_is_name, m_is_name, k_is_name, b_is_name⟩ := H_is_name
  refine ⟨f, fd, ?_, hm, F.kp, hb⟩
  have nd := sc_inner_of_var.nd
  refine F.ok sc_inner_of_var (fun vs H Q E h => ?_) (fun cdv A outer s0 H vs Q E hr h => ?_)
  · obtain ⟨v, t, G0, rfl, _⟩ := h
    rfl
  obtain ⟨v, t, G0, rfl, hw, hG, hT, hW, q⟩ := h
  refine ⟨_, (pss_one (ps_ret (pe_ifExp (PW.pt (pw_and (pt_cmpR op_eq (pe_callB call_len_seq (by rfl) z_len (by decide +kernel) (pa_cons (pv 0) pa_nil)) pe_int (nomark _)) (pw_and1 (pt_val (pe_call G_is_name (hr.mono (by decide)) rfl m_is_name k_is_name b_is_name .nil pass0 (pa_cons (pe_ix ix_tup (pv 0) pe_int (fun _ _ => rfl)) pa_nil)))))) (pe_tup pa_nil) pe_non))), ?_⟩
  cases hT with
  | @var a n h1 =>
    walk_at "rd"
    refine ⟨a, _, rfl, .inr (hG.tupS h1), ?_⟩
    walk_at "rd"
    refine ⟨a, _, _, _, rfl, rfl, hG.tupS h1, rfl, ?_⟩
    walk_at "rd"
    refine ⟨hW.hd.2, fun H1 S1 => ⟨_, rfl, ifT rfl ?_⟩⟩
    have G1 := hG.trans S1
    walk_at "rd"
    intro p hp
    exact q p _ [] (S1.trans (same_new hp _)) (.inr ⟨S1.fr hp, .inr upd_same⟩) al0
  | _ => exact absurd hw (of_decide_eq_false (by kernel_rfl))
theorem ok_in_int (S : Stands K mg "inner_of_int" s_inner_of_int ["node"]) (Z : Blt mg) (C : Cst mg) (H_is_integer_within : DefOk P w K mg base CX0 2 "is_integer_within" ["value", "least", "greatest"] spWithin) : DefOk P w K mg base CX0 4 "inner_of_int" ["node"] (spIn K "int") := by
  have z_len := Z.len
  obtain ⟨t_great, c_GREATEST⟩ := C.great
  have c_GREATEST_r := @rel_int (10 ^ 30) t_great
  obtain ⟨f, fd, F, hm, hb⟩ := S
  obtain ⟨f_is_integer_within, fd_is_integer_within, G_is_integer_within, m_is_integer_within, k_is_integer_within, b_is_integer_within⟩ := H_is_integer_within
  refine ⟨f, fd, ?_, hm, F.kp, hb⟩
  have nd := sc_inner_of_int.nd
  refine F.ok sc_inner_of_int (fun vs H Q E h => ?_) (fun cdv A outer s0 H vs Q E hr h => ?_)
  · obtain ⟨v, t, G0, rfl, _⟩ := h
    rfl
  obtain ⟨v, t, G0, rfl, hw, hG, hT, hW, q⟩ := h
  refine ⟨_, (pss_one (ps_ret (pe_ifExp (PW.pt (pw_and (pt_cmpR op_eq (pe_callB call_len_seq (by rfl) z_len (by decide +kernel) (pa_cons (pv 0) pa_nil)) pe_int (nomark _)) (pw_and1 (pt_val (pe_call G_is_integer_within (hr.mono (by decide)) rfl m_is_integer_within k_is_integer_within b_is_integer_within .nil pass0 (pa_cons (pe_ix ix_tup (pv 0) pe_int (fun _ _ => rfl)) (pa_cons (pe_un un_neg (pe_glob rfl c_GREATEST c_GREATEST_r)) (pa_cons (pe_glob rfl c_GREATEST c_GREATEST_r) pa_nil)))))))) (pe_tup pa_nil) pe_non))), ?_⟩
  cases hT with
  | @int a k h1 =>
    walk_at "rd"
    refine ⟨a, _, rfl, .inr (hG.tupS h1), ?_⟩
    walk_at "rd"
    refine ⟨a, _, _, _, rfl, rfl, hG.tupS h1, rfl, ?_⟩
    walk_at "rd"
    refine ⟨k, _, _, rfl, hW.hd.2.1, hW.hd.2.2, fun H1 S1 => ⟨_, rfl, ifT rfl ?_⟩⟩
    walk_at "rd"
    intro p hp
    exact q p _ [] (S1.trans (same_new hp _)) (.inr ⟨S1.fr hp, .inr upd_same⟩) al0
  | _ => exact absurd hw (of_decide_eq_false (by kernel_rfl))
theorem ok_in_bool (S : Stands K mg "inner_of_bool" s_inner_of_bool ["node"]) (Z : Blt mg) (C : Cst mg) : DefOk P w K mg base CX0 4 "inner_of_bool" ["node"] (spIn K "bool") := by
  have z_len := Z.len
  have z_isinstance := Z.isinstance
  have z_bool := Z.bool
  obtain ⟨f, fd, F, hm, hb⟩ := S
  refine ⟨f, fd, ?_, hm, F.kp, hb⟩
  have nd := sc_inner_of_bool.nd
  refine F.ok sc_inner_of_bool (fun vs H Q E h => ?_) (fun cdv A outer s0 H vs Q E hr h => ?_)
  · obtain ⟨v, t, G0, rfl, _⟩ := h
    rfl
  obtain ⟨v, t, G0, rfl, hw, hG, hT, hW, q⟩ := h
  refine ⟨_, (pss_one (ps_ret (pe_ifExp (PW.pt (pw_and (pt_cmpR op_eq (pe_callB call_len_seq (by rfl) z_len (by decide +kernel) (pa_cons (pv 0) pa_nil)) pe_int (nomark _)) (pw_and1 (pt_val (pe_callB call_isi (by rfl) z_isinstance (by decide +kernel) (pa_cons (pe_ix ix_tup (pv 0) pe_int (fun _ _ => rfl)) (pa_cons (pe_bltn (v := .ty "bool") (by rfl) z_bool (by decide +kernel) rfl) pa_nil))))))) (pe_tup pa_nil) pe_non))), ?_⟩
  cases hT with
  | @bool a b h1 =>
    walk_at "rd"
    refine ⟨a, _, rfl, .inr (hG.tupS h1), ?_⟩
    walk_at "rd"
    refine ⟨a, _, _, _, rfl, rfl, hG.tupS h1, rfl, ?_⟩
    walk_at "rd"
    refine ⟨_, .ty "bool", _, _, true, rfl, .ty "bool", .base (.bl b), kit_ty (by decide +kernel), _, rfl, ?_⟩
    refine ifT rfl ?_
    walk_at "rd"
    intro p hp
    exact q p _ [] (same_new hp _) (.inr ⟨hp, .inr upd_same⟩) al0
  | _ => exact absurd hw (of_decide_eq_false (by kernel_rfl))
theorem ok_in_fun (S : Stands K mg "inner_of_fun" s_inner_of_fun ["node"]) (Z : Blt mg) (C : Cst mg) (H_is_name : DefOk P w K mg base CX0 1 "is_name" ["value"] spIsName) : DefOk P w K mg base CX0 4 "inner_of_fun" ["node"] (spIn K "fun") := by
  have z_len := Z.len
  obtain ⟨f, fd, F, hm, hb⟩ := S
  obtain ⟨f_is_name, fd_is_name, G_is_name, m_is_name, k_is_name, b_is_name⟩ := H_is_name
  refine ⟨f, fd, ?_, hm, F.kp, hb⟩
  have nd := sc_inner_of_fun.nd
  refine F.ok sc_inner_of_fun (fun vs H Q E h => ?_) (fun cdv A outer s0 H vs Q E hr h => ?_)
  · obtain ⟨v, t, G0, rfl, _⟩ := h
    rfl
  obtain ⟨v, t, G0, rfl, hw, hG, hT, hW, q⟩ := h
  refine ⟨_, (pss_one (ps_ret (pe_ifExp (PW.pt (pw_and (pt_cmpR op_eq (pe_callB call_len_seq (by rfl) z_len (by decide +kernel) (pa_cons (pv 0) pa_nil)) pe_int (nomark _)) (pw_and1 (pt_val (pe_call G_is_name (hr.mono (by decide)) rfl m_is_name k_is_name b_is_name .nil pass0 (pa_cons (pe_ix ix_tup (pv 0) pe_int (fun _ _ => rfl)) pa_nil)))))) (pe_slice sl_tup (pv 0) (po_some pe_int) po_none) pe_non))), ?_⟩
  cases hT with
  | @fn a n v t1 h1 h2 =>
    walk_at "rd"
    refine ⟨a, _, rfl, .inr (hG.tupS h1), ?_⟩
    walk_at "rd"
    refine ⟨a, _, _, _, rfl, rfl, hG.tupS h1, rfl, ?_⟩
    walk_at "rd"
    refine ⟨hW.hd.2, fun H1 S1 => ⟨_, rfl, ifT rfl ?_⟩⟩
    have G1 := hG.trans S1
    walk_at "rd"
    refine ⟨a, _, rfl, G1.tupS h1, (fun z' => absurd (show (2 : Nat) = 0 from z'.1) (by decide)), fun p hp => ?_⟩
    exact q p _ [v] (S1.trans (same_new hp _)) (.inr ⟨S1.fr hp, .inr upd_same⟩) (al1 h2)
  | _ => exact absurd hw (of_decide_eq_false (by kernel_rfl))
theorem ok_in_app (S : Stands K mg "inner_of_app" s_inner_of_app ["node"]) (Z : Blt mg) (C : Cst mg) : DefOk P w K mg base CX0 4 "inner_of_app" ["node"] (spIn K "app") := by
  have z_len := Z.len
  obtain ⟨f, fd, F, hm, hb⟩ := S
  refine ⟨f, fd, ?_, hm, F.kp, hb⟩
  have nd := sc_inner_of_app.nd
  refine F.ok sc_inner_of_app (fun vs H Q E h => ?_) (fun cdv A outer s0 H vs Q E hr h => ?_)
  · obtain ⟨v, t, G0, rfl, _⟩ := h
    rfl
  obtain ⟨v, t, G0, rfl, hw, hG, hT, hW, q⟩ := h
  refine ⟨_, (pss_one (ps_ret (pe_ifExp (pt_cmpR op_eq (pe_callB call_len_seq (by rfl) z_len (by decide +kernel) (pa_cons (pv 0) pa_nil)) pe_int (nomark _)) (pe_slice sl_tup (pv 0) (po_some pe_int) po_none) pe_non))), ?_⟩
  cases hT with
  | @app a v t1 u t2 h1 h2 h3 =>
    walk_at "rd"
    refine ⟨a, _, rfl, .inr (hG.tupS h1), ?_⟩
    walk_at "rd"
    refine ⟨a, _, rfl, hG.tupS h1, (fun z' => absurd (show (1 : Nat) = 0 from z'.1) (by decide)), fun p hp => ?_⟩
    exact q p _ [v, u] ((Same.refl H).trans (same_new hp _)) (.inr ⟨(Same.refl H).fr hp, .inr upd_same⟩) (al2 h2 h3)
  | _ => exact absurd hw (of_decide_eq_false (by kernel_rfl))
theorem ok_in_let (S : Stands K mg "inner_of_let" s_inner_of_let ["node"]) (Z : Blt mg) (C : Cst mg) (H_is_name : DefOk P w K mg base CX0 1 "is_name" ["value"] spIsName) : DefOk P w K mg base CX0 4 "inner_of_let" ["node"] (spIn K "let") := by
  have z_len := Z.len
  obtain ⟨f, fd, F, hm, hb⟩ := S
  obtain ⟨f_is_name, fd_is_name, G_is_name, m_is_name, k_is_name, b_is_name⟩ := H_is_name
  refine ⟨f, fd, ?_, hm, F.kp, hb⟩
  have nd := sc_inner_of_let.nd
  refine F.ok sc_inner_of_let (fun vs H Q E h => ?_) (fun cdv A outer s0 H vs Q E hr h => ?_)
  · obtain ⟨v, t, G0, rfl, _⟩ := h
    rfl
  obtain ⟨v, t, G0, rfl, hw, hG, hT, hW, q⟩ := h
  refine ⟨_, (pss_one (ps_ret (pe_ifExp (PW.pt (pw_and (pt_cmpR op_eq (pe_callB call_len_seq (by rfl) z_len (by decide +kernel) (pa_cons (pv 0) pa_nil)) pe_int (nomark _)) (pw_and1 (pt_val (pe_call G_is_name (hr.mono (by decide)) rfl m_is_name k_is_name b_is_name .nil pass0 (pa_cons (pe_ix ix_tup (pv 0) pe_int (fun _ _ => rfl)) pa_nil)))))) (pe_slice sl_tup (pv 0) (po_some pe_int) po_none) pe_non))), ?_⟩
  cases hT with
  | @lt a n v t1 u t2 h1 h2 h3 =>
    walk_at "rd"
    refine ⟨a, _, rfl, .inr (hG.tupS h1), ?_⟩
    walk_at "rd"
    refine ⟨a, _, _, _, rfl, rfl, hG.tupS h1, rfl, ?_⟩
    walk_at "rd"
    refine ⟨hW.hd.2, fun H1 S1 => ⟨_, rfl, ifT rfl ?_⟩⟩
    have G1 := hG.trans S1
    walk_at "rd"
    refine ⟨a, _, rfl, G1.tupS h1, (fun z' => absurd (show (2 : Nat) = 0 from z'.1) (by decide)), fun p hp => ?_⟩
    exact q p _ [v, u] (S1.trans (same_new hp _)) (.inr ⟨S1.fr hp, .inr upd_same⟩) (al2 h2 h3)
  | _ => exact absurd hw (of_decide_eq_false (by kernel_rfl))
theorem ok_in_rec (S : Stands K mg "inner_of_rec" s_inner_of_rec ["node"]) (Z : Blt mg) (C : Cst mg) (H_is_name : DefOk P w K mg base CX0 1 "is_name" ["value"] spIsName) (H_begins_as_function : DefOk P w K mg base CX0 1 "begins_as_function" ["value"] (spBegins K)) : DefOk P w K mg base CX0 4 "inner_of_rec" ["node"] (spIn K "rec") := by
  have z_len := Z.len
  obtain ⟨f, fd, F, hm, hb⟩ := S
  obtain ⟨f_is_name, fd_is_name, G_is_name, m_is_name, k_is_name, b_is_name⟩ := H_is_name
  obtain ⟨f_begins_as_function, fd_begins_as_function, G_begins_as_function, m_begins_as_function, k_begins_as_function, b_begins_as_function⟩ := H_begins_as_function
  refine ⟨f, fd, ?_, hm, F.kp, hb⟩
  have nd := sc_inner_of_rec.nd
  refine F.ok sc_inner_of_rec (fun vs H Q E h => ?_) (fun cdv A outer s0 H vs Q E hr h => ?_)
  · obtain ⟨v, t, G0, rfl, _⟩ := h
    rfl
  obtain ⟨v, t, G0, rfl, hw, hG, hT, hW, q⟩ := h
  refine ⟨_, (pss_one (ps_ret (pe_ifExp (PW.pt (pw_and (pt_cmpR op_eq (pe_callB call_len_seq (by rfl) z_len (by decide +kernel) (pa_cons (pv 0) pa_nil)) pe_int (nomark _)) (pw_and (pt_val (pe_call G_is_name (hr.mono (by decide)) rfl m_is_name k_is_name b_is_name .nil pass0 (pa_cons (pe_ix ix_tup (pv 0) pe_int (fun _ _ => rfl)) pa_nil))) (pw_and1 (pt_val (pe_call G_begins_as_function (hr.mono (by decide)) rfl m_begins_as_function k_begins_as_function b_begins_as_function .nil pass0 (pa_cons (pe_ix ix_tup (pv 0) pe_int (fun _ _ => rfl)) pa_nil))))))) (pe_slice sl_tup (pv 0) (po_some pe_int) po_none) pe_non))), ?_⟩
  cases hT with
  | @rc a n v t1 u t2 h1 h2 h3 =>
    walk_at "rd"
    refine ⟨a, _, rfl, .inr (hG.tupS h1), ?_⟩
    walk_at "rd"
    refine ⟨a, _, _, _, rfl, rfl, hG.tupS h1, rfl, ?_⟩
    walk_at "rd"
    refine ⟨hW.hd.2, fun H1 S1 => ⟨_, rfl, ifT rfl ?_⟩⟩
    have G1 := hG.trans S1
    walk_at "rd"
    obtain ⟨b, ys, rfl, hb2⟩ := fn_of hW.rc h2
    refine ⟨a, _, _, _, rfl, rfl, G1.tupS h1, rfl, ?_⟩
    walk_at "rd"
    refine ⟨b, ys, rfl, G1.tupS hb2, fun H2 S2 => ⟨_, rfl, ifT rfl ?_⟩⟩
    walk_at "rd"
    refine ⟨a, _, rfl, (G1.trans S2).tupS h1, (fun z' => absurd (show (2 : Nat) = 0 from z'.1) (by decide)), fun p hp => ?_⟩
    exact q p _ [.ref b, u] ((S1.trans S2).trans (same_new hp _)) (.inr ⟨(S1.trans S2).fr hp, .inr upd_same⟩) (al2 h2 h3)
  | _ => exact absurd hw (of_decide_eq_false (by kernel_rfl))
theorem ok_in_if (S : Stands K mg "inner_of_if" s_inner_of_if ["node"]) (Z : Blt mg) (C : Cst mg) : DefOk P w K mg base CX0 4 "inner_of_if" ["node"] (spIn K "if") := by
  have z_len := Z.len
  obtain ⟨f, fd, F, hm, hb⟩ := S
  refine ⟨f, fd, ?_, hm, F.kp, hb⟩
  have nd := sc_inner_of_if.nd
  refine F.ok sc_inner_of_if (fun vs H Q E h => ?_) (fun cdv A outer s0 H vs Q E hr h => ?_)
  · obtain ⟨v, t, G0, rfl, _⟩ := h
    rfl
  obtain ⟨v, t, G0, rfl, hw, hG, hT, hW, q⟩ := h
  refine ⟨_, (pss_one (ps_ret (pe_ifExp (pt_cmpR op_eq (pe_callB call_len_seq (by rfl) z_len (by decide +kernel) (pa_cons (pv 0) pa_nil)) pe_int (nomark _)) (pe_slice sl_tup (pv 0) (po_some pe_int) po_none) pe_non))), ?_⟩
  cases hT with
  | @cond a v t1 u t2 z t3 h1 h2 h3 h4 =>
    walk_at "rd"
    refine ⟨a, _, rfl, .inr (hG.tupS h1), ?_⟩
    walk_at "rd"
    refine ⟨a, _, rfl, hG.tupS h1, (fun z' => absurd (show (1 : Nat) = 0 from z'.1) (by decide)), fun p hp => ?_⟩
    exact q p _ [v, u, z] ((Same.refl H).trans (same_new hp _)) (.inr ⟨(Same.refl H).fr hp, .inr upd_same⟩) (al3 h2 h3 h4)
  | _ => exact absurd hw (of_decide_eq_false (by kernel_rfl))
theorem ok_in_tuple (S : Stands K mg "inner_of_tuple" s_inner_of_tuple ["node"]) (Z : Blt mg) (C : Cst mg) (H_are_items : DefOk P w K mg base CX0 1 "are_items" ["value"] (spAreItems K)) : DefOk P w K mg base CX0 4 "inner_of_tuple" ["node"] (spIn K "tuple") := by
  have z_len := Z.len
  obtain ⟨f, fd, F, hm, hb⟩ := S
  obtain ⟨f_are_items, fd_are_items, G_are_items, m_are_items, k_are_items, b_are_items⟩ := H_are_items
  refine ⟨f, fd, ?_, hm, F.kp, hb⟩
  have nd := sc_inner_of_tuple.nd
  refine F.ok sc_inner_of_tuple (fun vs H Q E h => ?_) (fun cdv A outer s0 H vs Q E hr h => ?_)
  · obtain ⟨v, t, G0, rfl, _⟩ := h
    rfl
  obtain ⟨v, t, G0, rfl, hw, hG, hT, hW, q⟩ := h
  refine ⟨_, (pss_one (ps_ret (pe_ifExp (PW.pt (pw_and (pt_cmpR op_eq (pe_callB call_len_seq (by rfl) z_len (by decide +kernel) (pa_cons (pv 0) pa_nil)) pe_int (nomark _)) (pw_and1 (pt_val (pe_call G_are_items (hr.mono (by decide)) rfl m_are_items k_are_items b_are_items .nil pass0 (pa_cons (pe_ix ix_tup (pv 0) pe_int (fun _ _ => rfl)) pa_nil)))))) (pe_ix ix_tup (pv 0) pe_int (fun _ _ => rfl)) pe_non))), ?_⟩
  cases hT with
  | @tup a l xs ts h1 h2 h3 h4 =>
    walk_at "rd"
    refine ⟨a, _, rfl, .inr (hG.tupS h1), ?_⟩
    walk_at "rd"
    refine ⟨a, _, _, _, rfl, rfl, hG.tupS h1, rfl, ?_⟩
    walk_at "rd"
    have hd := hW.hd
    simp only [okHd] at hd
    refine ⟨l, xs, rfl, hG.seq h2, by omega, by omega, fun H1 S1 => ⟨_, rfl, ifT rfl ?_⟩⟩
    walk_at "rd"
    refine ⟨a, _, _, _, rfl, rfl, (hG.trans S1).tupS h1, rfl, ?_⟩
    exact q l H1 xs S1 (.inl (.inl h2)) ⟨h3, h4⟩
  | _ => exact absurd hw (of_decide_eq_false (by kernel_rfl))
theorem ok_in_part (S : Stands K mg "inner_of_part" s_inner_of_part ["node"]) (Z : Blt mg) (C : Cst mg) (H_is_integer_within : DefOk P w K mg base CX0 2 "is_integer_within" ["value", "least", "greatest"] spWithin) : DefOk P w K mg base CX0 4 "inner_of_part" ["node"] (spIn K "part") := by
  have z_len := Z.len
  obtain ⟨t_least, c_LEAST_ITEMS⟩ := C.least
  have c_LEAST_ITEMS_r := @rel_int 2 t_least
  obtain ⟨t_items, c_MOST_ITEMS⟩ := C.items
  have c_MOST_ITEMS_r := @rel_int 6 t_items
  obtain ⟨f, fd, F, hm, hb⟩ := S
  obtain ⟨f_is_integer_within, fd_is_integer_within, G_is_integer_within, m_is_integer_within, k_is_integer_within, b_is_integer_within⟩ := H_is_integer_within
  refine ⟨f, fd, ?_, hm, F.kp, hb⟩
  have nd := sc_inner_of_part.nd
  refine F.ok sc_inner_of_part (fun vs H Q E h => ?_) (fun cdv A outer s0 H vs Q E hr h => ?_)
  · obtain ⟨v, t, G0, rfl, _⟩ := h
    rfl
  obtain ⟨v, t, G0, rfl, hw, hG, hT, hW, q⟩ := h
  refine ⟨_, (pss_cons (ps_if (PW.pt (pw_or (pt_cmpR op_ne (pe_callB call_len_seq (by rfl) z_len (by decide +kernel) (pa_cons (pv 0) pa_nil)) pe_int (nomark _)) (pw_or1 (pt_not (pt_val (pe_call G_is_integer_within (hr.mono (by decide)) rfl m_is_integer_within k_is_integer_within b_is_integer_within .nil pass0 (pa_cons (pe_ix ix_tup (pv 0) pe_int (fun _ _ => rfl)) (pa_cons (pe_glob rfl c_LEAST_ITEMS c_LEAST_ITEMS_r) (pa_cons (pe_glob rfl c_MOST_ITEMS c_MOST_ITEMS_r) pa_nil))))))))) (pss_one (ps_ret pe_non)) pss_nil)
      (pss_one (ps_ret (pe_ifExp (pt_val (pe_call G_is_integer_within (hr.mono (by decide)) rfl m_is_integer_within k_is_integer_within b_is_integer_within .nil pass0 (pa_cons (pe_ix ix_tup (pv 0) pe_int (fun _ _ => rfl)) (pa_cons pe_int (pa_cons (pe_op op_sub (pe_ix ix_tup (pv 0) pe_int (fun _ _ => rfl)) pe_int) pa_nil))))) (pe_slice sl_tup (pv 0) (po_some pe_int) po_none) pe_non)))), ?_⟩
  cases hT with
  | @part a k z v t1 h1 h2 =>
    walk_at "rd"
    refine ⟨a, _, rfl, .inr (hG.tupS h1), ?_⟩
    walk_at "rd"
    refine ⟨a, _, _, _, rfl, rfl, hG.tupS h1, rfl, ?_⟩
    walk_at "rd"
    have hd := hW.hd
    simp only [okHd] at hd
    refine ⟨z, 2, 6, rfl, by omega, by omega, fun H1 S1 => ⟨_, rfl, ifF rfl ?_⟩⟩
    have G1 := hG.trans S1
    walk_at "rd"
    refine ⟨a, _, _, _, rfl, rfl, G1.tupS h1, rfl, ?_⟩
    walk_at "rd"
    refine ⟨a, _, _, _, rfl, rfl, G1.tupS h1, rfl, ?_⟩
    walk_at "rd"
    refine ⟨k, 0, z - 1, rfl, by omega, by omega, fun H2 S2 => ⟨_, rfl, ifT rfl ?_⟩⟩
    walk_at "rd"
    refine ⟨a, _, rfl, (G1.trans S2).tupS h1, (fun z' => absurd (show (3 : Nat) = 0 from z'.1) (by decide)), fun p hp => ?_⟩
    exact q p _ [v] ((S1.trans S2).trans (same_new hp _)) (.inr ⟨(S1.trans S2).fr hp, .inr upd_same⟩) (al1 h2)
  | _ => exact absurd hw (of_decide_eq_false (by kernel_rfl))
theorem ok_in_record (S : Stands K mg "inner_of_record" s_inner_of_record ["node"]) (Z : Blt mg) (C : Cst mg) (H_are_fields : DefOk P w K mg base CX0 3 "are_fields" ["value", "most"] (spAreFields K)) : DefOk P w K mg base CX0 4 "inner_of_record" ["node"] (spIn K "record") := by
  have z_len := Z.len
  obtain ⟨t_fields, c_MOST_FIELDS⟩ := C.fields
  have c_MOST_FIELDS_r := @rel_int 12 t_fields
  obtain ⟨f, fd, F, hm, hb⟩ := S
  obtain ⟨f_are_fields, fd_are_fields, G_are_fields, m_are_fields, k_are_fields, b_are_fields⟩ := H_are_fields
  refine ⟨f, fd, ?_, hm, F.kp, hb⟩
  have nd := sc_inner_of_record.nd
  refine F.ok sc_inner_of_record (fun vs H Q E h => ?_) (fun cdv A outer s0 H vs Q E hr h => ?_)
  · obtain ⟨v, t, G0, rfl, _⟩ := h
    rfl
  obtain ⟨v, t, G0, rfl, hw, hG, hT, hW, q⟩ := h
  refine ⟨_, (pss_cons (ps_if (PW.pt (pw_or (pt_cmpR op_ne (pe_callB call_len_seq (by rfl) z_len (by decide +kernel) (pa_cons (pv 0) pa_nil)) pe_int (nomark _)) (pw_or1 (pt_not (pt_val (pe_call G_are_fields (hr.mono (by decide)) rfl m_are_fields k_are_fields b_are_fields .nil pass0 (pa_cons (pe_ix ix_tup (pv 0) pe_int (fun _ _ => rfl)) (pa_cons (pe_glob rfl c_MOST_FIELDS c_MOST_FIELDS_r) pa_nil)))))))) (pss_one (ps_ret pe_non)) pss_nil)
      (pss_one (ps_ret (pe_lc (own := [("_", 1), ("term", 2)]) (g := gTup K 2 (gCons (gName 1) (gCons (gName 2) gNil))) (tt := tYes) rfl nd (pi_list (pe_ix ix_tup (pv 0) pe_int (fun _ _ => rfl))) (blkOk_by (N := N_inner_of_record) (sc := defScope s_inner_of_record) (by decide +kernel)) (fun _ _ _ _ _ => (pg_tup rfl (pgs_cons (pg_name (i := 1) nd rfl (Or.inl rfl)) (pgs_cons (pg_name (i := 2) nd rfl (Or.inl rfl)) pgs_nil)))) (fun _ _ _ _ _ => pts_nil) (fun _ _ _ _ _ => (pv 2)))))), ?_⟩
  cases hT with
  | @record a l bs us ls ts h1 h2 h3 h4 h5 h6 h7 =>
    walk_at "rd"
    refine ⟨a, _, rfl, .inr (hG.tupS h1), ?_⟩
    walk_at "rd"
    refine ⟨a, _, _, _, rfl, rfl, hG.tupS h1, rfl, ?_⟩
    walk_at "rd"
    have hd := hW.hd
    simp only [okHd] at hd
    refine ⟨l, bs, ls, us, rfl, hG.seq h2, by omega, by omega, by omega, fun i b n u e1 e2 e3 => hG.tupS (h6 i b n u e1 e2 e3), hd.2.2.1, hd.2.2.2, fun H1 S1 => ⟨_, rfl, ifF rfl ?_⟩⟩
    have G1 := hG.trans S1
    walk_at "rd"
    refine ⟨a, _, _, _, rfl, rfl, G1.tupS h1, rfl, ?_⟩
    refine ⟨l, rfl, ⟨_, G1.seq h2⟩, fun D hD => ?_⟩
    refine lc_list (K := K) (a := l) (xs := bs.map V.ref) (fun i X => ∃ (G : Hp), Same G X ∧ G D = none ∧ Same H1 G ∧ X D = some (.lst (us.take i)))
      ⟨H1, same_new hD _, hD, Same.refl _, upd_same⟩ (fun i X hi ⟨G, g1, _, g3, _⟩ => (g3.trans g1).seq (G1.seq h2)) ?_ ?_
    · rintro i x X hx ⟨G, g1, g2, g3, g4⟩
      obtain ⟨b, hb1, hb2, rfl⟩ := get_map hx
      have hi := (List.getElem?_eq_some_iff.mp hb2).1
      have hu : us[i]? = some (us[i]'(by omega)) := List.getElem?_eq_getElem (by omega)
      have hn : ls[i]? = some (ls[i]'(by omega)) := List.getElem?_eq_getElem (by omega)
      have ht := (G1.trans (g3.trans g1)).tupS (h6 i b _ _ hb2 hn hu)
      refine ⟨b, _, rfl, ht, rfl, ?_⟩
      refine ⟨_, _, rfl, ⟨_, _, rfl, rfl, ?_⟩⟩
      refine ⟨rfl, ?_⟩
      walk_at "rd"
      refine ⟨_, g4, small1000 (by rw [List.length_take]; omega), G, g1.wr g2, g2, g3, ?_⟩
      rw [upd_same, List.take_add_one, hu]
      rfl
    · rintro X ⟨G, g1, g2, g3, g4⟩
      rw [List.length_map, List.take_of_length_le (by omega)] at g4
      exact q D X us (S1.trans (g3.trans g1)) (.inr ⟨S1.fr hD, .inl g4⟩) ⟨h5, h7⟩
  | _ => exact absurd hw (of_decide_eq_false (by kernel_rfl))
theorem ok_in_field (S : Stands K mg "inner_of_field" s_inner_of_field ["node"]) (Z : Blt mg) (C : Cst mg) (H_is_name : DefOk P w K mg base CX0 1 "is_name" ["value"] spIsName) : DefOk P w K mg base CX0 4 "inner_of_field" ["node"] (spIn K "field") := by
  have z_len := Z.len
  obtain ⟨f, fd, F, hm, hb⟩ := S
  obtain ⟨f_is_name, fd_is_name, G_is_name, m_is_name, k_is_name, b_is_name⟩ := H_is_name
  refine ⟨f, fd, ?_, hm, F.kp, hb⟩
  have nd := sc_inner_of_field.nd
  refine F.ok sc_inner_of_field (fun vs H Q E h => ?_) (fun cdv A outer s0 H vs Q E hr h => ?_)
  · obtain ⟨v, t, G0, rfl, _⟩ := h
    rfl
  obtain ⟨v, t, G0, rfl, hw, hG, hT, hW, q⟩ := h
  refine ⟨_, (pss_one (ps_ret (pe_ifExp (PW.pt (pw_and (pt_cmpR op_eq (pe_callB call_len_seq (by rfl) z_len (by decide +kernel) (pa_cons (pv 0) pa_nil)) pe_int (nomark _)) (pw_and1 (pt_val (pe_call G_is_name (hr.mono (by decide)) rfl m_is_name k_is_name b_is_name .nil pass0 (pa_cons (pe_ix ix_tup (pv 0) pe_int (fun _ _ => rfl)) pa_nil)))))) (pe_slice sl_tup (pv 0) (po_some pe_int) (po_some pe_int)) pe_non))), ?_⟩
  cases hT with
  | @field a v t1 n h1 h2 =>
    walk_at "rd"
    refine ⟨a, _, rfl, .inr (hG.tupS h1), ?_⟩
    walk_at "rd"
    refine ⟨a, _, _, _, rfl, rfl, hG.tupS h1, rfl, ?_⟩
    walk_at "rd"
    refine ⟨hW.hd.2, fun H1 S1 => ⟨_, rfl, ifT rfl ?_⟩⟩
    have G1 := hG.trans S1
    walk_at "rd"
    refine ⟨a, _, rfl, G1.tupS h1, (fun z' => absurd (show (1 : Nat) = 0 from z'.1) (by decide)), fun p hp => ?_⟩
    exact q p _ [v] (S1.trans (same_new hp _)) (.inr ⟨S1.fr hp, .inr upd_same⟩) (al1 h2)
  | _ => exact absurd hw (of_decide_eq_false (by kernel_rfl))
theorem ok_in_with (S : Stands K mg "inner_of_with" s_inner_of_with ["node"]) (Z : Blt mg) (C : Cst mg) (H_is_name : DefOk P w K mg base CX0 1 "is_name" ["value"] spIsName) : DefOk P w K mg base CX0 4 "inner_of_with" ["node"] (spIn K "with") := by
  have z_len := Z.len
  obtain ⟨f, fd, F, hm, hb⟩ := S
  obtain ⟨f_is_name, fd_is_name, G_is_name, m_is_name, k_is_name, b_is_name⟩ := H_is_name
  refine ⟨f, fd, ?_, hm, F.kp, hb⟩
  have nd := sc_inner_of_with.nd
  refine F.ok sc_inner_of_with (fun vs H Q E h => ?_) (fun cdv A outer s0 H vs Q E hr h => ?_)
  · obtain ⟨v, t, G0, rfl, _⟩ := h
    rfl
  obtain ⟨v, t, G0, rfl, hw, hG, hT, hW, q⟩ := h
  refine ⟨_, (pss_one (ps_ret (pe_ifExp (PW.pt (pw_and (pt_cmpR op_eq (pe_callB call_len_seq (by rfl) z_len (by decide +kernel) (pa_cons (pv 0) pa_nil)) pe_int (nomark _)) (pw_and1 (pt_val (pe_call G_is_name (hr.mono (by decide)) rfl m_is_name k_is_name b_is_name .nil pass0 (pa_cons (pe_ix ix_tup (pv 0) pe_int (fun _ _ => rfl)) pa_nil)))))) (pe_tup (pa_cons (pe_ix ix_tup (pv 0) pe_int (fun _ _ => rfl)) (pa_cons (pe_ix ix_tup (pv 0) pe_int (fun _ _ => rfl)) pa_nil))) pe_non))), ?_⟩
  cases hT with
  | @wth a v t1 n u t2 h1 h2 h3 =>
    walk_at "rd"
    refine ⟨a, _, rfl, .inr (hG.tupS h1), ?_⟩
    walk_at "rd"
    refine ⟨a, _, _, _, rfl, rfl, hG.tupS h1, rfl, ?_⟩
    walk_at "rd"
    refine ⟨hW.hd.2, fun H1 S1 => ⟨_, rfl, ifT rfl ?_⟩⟩
    have G1 := hG.trans S1
    walk_at "rd"
    refine ⟨a, _, _, _, rfl, rfl, G1.tupS h1, rfl, ?_⟩
    walk_at "rd"
    refine ⟨a, _, _, _, rfl, rfl, G1.tupS h1, rfl, ?_⟩
    walk_at "rd"
    intro p hp
    exact q p _ [v, u] (S1.trans (same_new hp _)) (.inr ⟨S1.fr hp, .inr upd_same⟩) (al2 h2 h3)
  | _ => exact absurd hw (of_decide_eq_false (by kernel_rfl))
end
end Vt


set_option Elab.async false
set_option linter.all false
set_option maxRecDepth 100000
set_option maxHeartbeats 4000000

namespace Vt
open PySem PySem.Spec PyProof.Rows L2
/-! ### the terms within a node of any kind -/
/-- the table of the kinds: where each word's own def stands -/
structure Kinds (P : Program) (w : World) (K : PySem.W.Frag) (mg : Str → Option Value) (base : Heap) (D : Addr) (es : Array DictEntry) (n : Nat) : Prop where
  at_ : mg "INNER_OF" = some (.ref D)
  kd : KDict K w D es n
  fn : ∀ h : Hd, ∃ f : Addr, PySem.W.nsIn K D h.word = some (some (.ref f)) ∧ Held P w K mg base 4 f (spIn K h.word)
def spInner (K : PySem.W.Frag) : Sp := fun vs H Q _ => ∃ (v : V) (t : T) (G0 : Hp), vs = [v] ∧ Same G0 H ∧ Tm K G0 v t ∧ Wt t ∧
  ∀ (r : Addr) (H' : Hp) (us : List V), Same H H' → Nw K G0 H H' r us → Al (fun u k => Tm K G0 u k) us t.kids → Q (.ref r) H'
abbrev s_inner_terms : Stmt := topS 37
abbrev N_inner_terms : List Str := ["value", "inner_of"]
theorem sc_inner_terms : FnScope N_inner_terms ["value"] (defScope s_inner_terms) := ⟨rfl, rfl, rfl, by decide +kernel, rfl, by decide +kernel, by decide +kernel⟩
section
variable {P : Program} {w : World} {K : PySem.W.Frag} {mg : Str → Option Value} {base : Heap}
theorem ok_inner_terms {D : Addr} {es : Array DictEntry} {n : Nat} (S : Stands K mg "inner_terms" s_inner_terms ["value"]) (Z : Blt mg) (KD : Kinds P w K mg base D es n) : DefOk P w K mg base CX0 5 "inner_terms" ["value"] (spInner K) := by
  have z_isinstance := Z.isinstance
  have z_tuple := Z.tuple
  have z_str := Z.str
  have c_INNER_OF := KD.at_
  have c_INNER_OF_r : RelV (.ref D) (Value.ref D) := rfl
  obtain ⟨f, fd, F, hm, hb⟩ := S
  refine ⟨f, fd, ?_, hm, F.kp, hb⟩
  have nd := sc_inner_terms.nd
  refine F.ok sc_inner_terms (fun vs H Q E h => ?_) (fun cdv A outer s0 H vs Q E hr h => ?_)
  · obtain ⟨v, t, G0, rfl, _⟩ := h
    rfl
  obtain ⟨v, t, G0, rfl, hG, hT, hW, q⟩ := h
  refine ⟨_, (pss_cons (ps_if (PW.pt (pw_or (pt_not (pt_val (pe_callB call_isi (by rfl) z_isinstance (by decide +kernel) (pa_cons (pv 0) (pa_cons (pe_bltn (v := .ty "tuple") (by rfl) z_tuple (by decide +kernel) rfl) pa_nil))))) (pw_or (pt_not (pt_truth (pv 0) (by intro _; rfl))) (pw_or (pt_not (pt_val (pe_callB call_isi (by rfl) z_isinstance (by decide +kernel) (pa_cons (pe_ix ix_tup (pv 0) pe_int (fun _ _ => rfl)) (pa_cons (pe_bltn (v := .ty "str") (by rfl) z_str (by decide +kernel) rfl) pa_nil))))) (pw_or1 (pt_cmpR (op_notIn_kd KD.kd) (pe_ix ix_tup (pv 0) pe_int (fun _ _ => rfl)) (pe_glob rfl c_INNER_OF c_INNER_OF_r) (by rfl))))))) (pss_one (ps_ret pe_non)) pss_nil)
      (pss_cons (ps_set (i := 1) nd rfl (Or.inl rfl) (pe_ix ix_kdict (pe_glob rfl c_INNER_OF c_INNER_OF_r) (pe_ix ix_tup (pv 0) pe_int (fun _ _ => rfl)) (fun _ _ => rfl)))
      (pss_one (ps_ret (pe_held (k := 4) (i := 1) (hr.mono (by decide)) rfl (Or.inl rfl) (pa_cons (pv 0) pa_nil)))))), ?_⟩
  obtain ⟨a, xs, rfl, hx⟩ := (hT.same hG).tuple
  obtain ⟨g, hn, hg⟩ := KD.fn t.hd
  walk_at "rd"
  refine ⟨_, .ty "tuple", _, _, true, rfl, .ty "tuple", tyT hx, kit_ty (by decide +kernel), _, rfl, ?_⟩
  refine ifF rfl ?_
  walk_at "rd"
  refine ⟨true, .inr (.inl ⟨_, hx, rfl⟩), ?_⟩
  refine ifF rfl ?_
  walk_at "rd"
  refine ⟨a, _, _, _, rfl, rfl, hx, at0, ?_⟩
  walk_at "rd"
  refine ⟨_, .ty "str", _, _, true, rfl, .ty "str", .base (.str _), kit_ty (by decide +kernel), _, rfl, ?_⟩
  refine ifF rfl ?_
  walk_at "rd"
  refine ⟨a, _, _, _, rfl, rfl, hx, at0, ?_⟩
  walk_at "rd"
  refine ⟨_, _, rfl, rfl, hn, _, rfl, ?_⟩
  refine ifF rfl ?_
  walk_at "rd"
  refine ⟨a, _, _, _, rfl, rfl, hx, at0, ?_⟩
  refine ⟨D, _, .ref g, rfl, rfl, ⟨es, n, _, KD.kd.at_, KD.kd.lit, hn, rfl⟩, ?_⟩
  walk_at "rd"
  refine ⟨g, _, rfl, hg, ?_⟩
  walk_at "rd"
  exact ⟨.ref a, t, G0, rfl, rfl, hG, hT, hW, q⟩
end
end Vt


set_option Elab.async false
set_option linter.all false
set_option maxRecDepth 100000
set_option maxHeartbeats 4000000

namespace Vt
open PySem PySem.Spec PyProof.Rows L2
/-! ### depth by depth -/
theorem sizes_app (b : List T) : ∀ a : List T, T.sizes (a ++ b) = T.sizes a + T.sizes b
  | [] => by simp [T.sizes]
  | t :: r => by
    simp only [List.cons_append, T.sizes, sizes_app b r]
    omega
theorem deeps_app (b : List T) : ∀ a : List T, T.deeps (a ++ b) = max (T.deeps a) (T.deeps b)
  | [] => by simp [T.deeps]
  | t :: r => by
    simp only [List.cons_append, T.deeps, deeps_app b r]
    omega
theorem sizes_next : ∀ ts : List T, T.sizes ts = ts.length + T.sizes (ts.flatMap T.kids)
  | [] => rfl
  | .node h ks :: r => by
    rw [List.flatMap_cons, sizes_app, T.sizes, sizes_next r, T.size, List.length_cons]
    show 1 + T.sizes ks + _ = _ + (T.sizes ks + _)
    omega
theorem deeps_next : ∀ ts : List T, ts ≠ [] → T.deeps ts = 1 + T.deeps (ts.flatMap T.kids)
  | [], h => absurd rfl h
  | [.node h ks], _ => by
    simp [T.deeps, T.deep]
  | .node h ks :: u :: r, _ => by
    rw [List.flatMap_cons, deeps_app, T.deeps, deeps_next (u :: r) (by simp), T.deep]
    show max (1 + T.deeps ks) _ = 1 + max (T.deeps ks) _
    omega
theorem len_sizes : ∀ ts : List T, ts.length ≤ T.sizes ts := fun ts => by
  rw [sizes_next]
  omega
def spLevels (K : PySem.W.Frag) : Sp := fun vs H Q _ => ∃ (v : V) (t : T) (G0 : Hp), vs = [v] ∧ Same G0 H ∧ Tm K G0 v t ∧ Wt t ∧ t.size ≤ 400 ∧ t.deep ≤ 100 ∧
  ∀ (r : Addr) (H' : Hp) (as : List Addr) (ns : List Nat), Same H H' → H r = none → H' r = some (.lst (as.map V.ref)) → as.length = t.deep → ns.sum = t.size → Al (fun a n => ∃ us, Sq K H' a us ∧ us.length = n) as ns → Q (.ref r) H'
abbrev s_levels_if_term : Stmt := topS 38
abbrev N_levels_if_term : List Str := ["value", "levels", "count", "level", "below", "node", "inner"]
theorem sc_levels_if_term : FnScope N_levels_if_term ["value"] (defScope s_levels_if_term) := ⟨rfl, rfl, rfl, by decide +kernel, rfl, by decide +kernel, by decide +kernel⟩
section
variable {P : Program} {w : World} {K : PySem.W.Frag} {mg : Str → Option Value} {base : Heap}
theorem ok_levels_if_term (S : Stands K mg "levels_if_term" s_levels_if_term ["value"]) (Z : Blt mg) (C : Cst mg) (H_inner_terms : DefOk P w K mg base CX0 5 "inner_terms" ["value"] (spInner K)) : DefOk P w K mg base CX0 6 "levels_if_term" ["value"] (spLevels K) := by
  have z_len := Z.len
  obtain ⟨t4, c_MOST_NODES⟩ := C.nodes
  have c_MOST_NODES_r := @rel_int 400 t4
  obtain ⟨t1, c_MOST_DEPTH⟩ := C.depth
  have c_MOST_DEPTH_r := @rel_int 100 t1
  obtain ⟨f, fd, F, hm, hb⟩ := S
  obtain ⟨f_inner_terms, fd_inner_terms, G_inner_terms, m_inner_terms, k_inner_terms, b_inner_terms⟩ := H_inner_terms
  refine ⟨f, fd, ?_, hm, F.kp, hb⟩
  have nd := sc_levels_if_term.nd
  refine F.ok sc_levels_if_term (fun vs H Q E h => ?_) (fun cdv A outer s0 H vs Q E hr h => ?_)
  · obtain ⟨v, t, G0, rfl, _⟩ := h
    rfl
  obtain ⟨v, t, G0, rfl, hG, hT, hW, hsz, hdp, q⟩ := h
  refine ⟨_, (pss_cons (ps_set (i := 1) nd rfl (Or.inl rfl) (pe_lst pa_nil))
      (pss_cons (ps_set (i := 2) nd rfl (Or.inl rfl) pe_int)
      (pss_cons (ps_set (i := 3) nd rfl (Or.inl rfl) (pe_tup (pa_cons (pv 0) pa_nil)))
      (pss_cons (ps_while PassesOwn.never (pt_truth (pv 3) (by intro _; rfl)) (pss_cons (ps_aug (i := 2) nd rfl (Or.inl rfl) (pe_callB call_len_seq (by rfl) z_len (by decide +kernel) (pa_cons (pv 3) pa_nil)) ip_add)
      (pss_cons (ps_if (PW.pt (pw_or (pt_cmpR op_gt (pv 2) (pe_glob rfl c_MOST_NODES c_MOST_NODES_r) (nomark _)) (pw_or1 (pt_cmpR op_eq (pe_callB call_len_seq (by rfl) z_len (by decide +kernel) (pa_cons (pv 1) pa_nil)) (pe_glob rfl c_MOST_DEPTH c_MOST_DEPTH_r) (nomark _))))) (pss_one (ps_ret pe_non)) pss_nil)
      (pss_cons (ps_expr (pe_bm PySem.F.plainAttrs_list PySem.F.slot_list_append PySem.F.type_list_append mt_append (pv 1) (pa_cons (pv 3) pa_nil)))
      (pss_cons (ps_set (i := 4) nd rfl (Or.inl rfl) (pe_lst pa_nil))
      (pss_cons (ps_for PassesOwn.never rfl (pi_either (pi_list (pv 3)) (pi_tup (pv 3))) (pg_name (i := 5) nd rfl (Or.inl rfl)) (pss_cons (ps_set (i := 6) nd rfl (Or.inl rfl) (pe_call G_inner_terms (hr.mono (by decide)) rfl m_inner_terms k_inner_terms b_inner_terms .nil pass0 (pa_cons (pv 5) pa_nil)))
      (pss_cons (ps_if (pt_cmpR op_isN (pv 6) pe_non (nomark _)) (pss_one (ps_ret pe_non)) pss_nil)
      (pss_one (ps_expr (pe_bm PySem.F.plainAttrs_list PySem.F.slot_list_extend PySem.F.type_list_extend mt_extA (pv 4) (pa_cons (pv 6) pa_nil)))))))
      (pss_one (ps_set (i := 3) nd rfl (Or.inl rfl) (pv 4)))))))))
      (pss_one (ps_ret (pv 1))))))), ?_⟩
  walk_at "rd"
  intro D hD
  have SD := same_new hD (.lst [])
  have hD1 := @upd_same H D (.lst [])
  have oD : Same H (off D (upd H D (.lst []))) := SD.off hD
  generalize upd H D (.lst []) = H1 at *
  walk_at "rd"
  intro a ha
  have Sa := same_new ha (.tup [v])
  have ta : SqT K (off D (upd H1 a (.tup [v]))) a [v] := tup_off (zs := []) (SqT.of upd_same) (Sa _ _ hD1)
  have hD2 := Sa _ _ hD1
  have S2 := SD.trans Sa
  generalize upd H1 a (.tup [v]) = H2 at *
  have o2 : Same H (off D H2) := S2.off hD
  unfold gName
  dsimp only
  unfold tSeq
  dsimp only
  refine while_by (fun σ X => ∃ (a : Addr) (us : List V) (ts : List T) (as : List Addr) (ns : List Nat) (s4 s5 s6 : Option V) (G : Hp), σ = [some v, some (.ref D), some (.int (ns.sum : Nat)), some (.ref a), s4, s5, s6] ∧ Same G X ∧ G D = none ∧ Same H G ∧
    X D = some (.lst (as.map V.ref)) ∧ Sq K G a us ∧ Al (fun u k => Tm K G0 u k) us ts ∧ (∀ k ∈ ts, Wt k) ∧ Al (fun a n => ∃ us, Sq K G a us ∧ us.length = n) as ns ∧ ns.sum + T.sizes ts = t.size ∧ as.length + T.deeps ts = t.deep)
    (fun σ X => match X D with | some (.lst ls) => 100 - ls.length | _ => 0) ?_ ?_ ?_
  · exact ⟨a, [v], [t], [], [], none, none, none, off D H2, rfl, off_same, off_at, o2, hD2, .inr ta, al1 hT, (fun k hk => by rw [List.mem_singleton.mp hk]; exact hW), Al.nil, by simp [T.sizes], by simp [T.deeps]⟩
  · rintro σ X ⟨a, us, ts, as, ns, s4, s5, s6, G, rfl, g1, g2, g3, hX, ha, hal, hw, hlv, e1, e2⟩
    walk_at "rd"
    refine ⟨!us.isEmpty, (ha.same g1).elim (fun z => .inl ⟨_, z, rfl⟩) (fun z => .inr (.inl ⟨_, z, rfl⟩)), ?_⟩
    cases us with
    | nil =>
      refine ifF rfl ?_
      have ets : ts = [] := List.eq_nil_of_length_eq_zero hal.1.symm
      subst ets
      walk_at "rd"
      refine q D X as ns (g3.trans g1) hD hX (by simpa [T.deeps] using e2) (by simpa [T.sizes] using e1) (hlv.mono fun b n _ ⟨us, z, e⟩ => ⟨us, z.same g1, e⟩)
    | cons u0 ur =>
      refine ifT rfl ?_
      have hts : ts ≠ [] := fun z => by
        subst z
        cases hal.1
      have hsum := sizes_next ts
      have hdeep := deeps_next ts hts
      have hlen := hal.1
      have hpos : 1 ≤ ts.length := by
        rw [← hlen]
        simp
      generalize u0 :: ur = us at *
      walk_at "rd"
      refine ⟨a, us, rfl, (ha.same g1), ?_⟩
      walk_at "rd"
      refine ifF (decide_eq_false (show ¬ (400 : Int) < ((ns.sum : Nat) : Int) + ((us.length : Nat) : Int) by have := len_sizes ts; omega)) ?_
      walk_at "rd"
      refine ⟨D, _, rfl, .inl (SqL.of hX), ?_⟩
      walk_at "rd"
      refine ifF (decide_eq_false (fun z => by injection z with z; rw [List.length_map] at z; omega)) ?_
      walk_at "rd"
      have hl100 : (as.map V.ref).length ≤ 100 := by rw [List.length_map]; omega
      refine ⟨.inl ⟨rfl, _, SqL.of hX⟩, ?_⟩
      walk_at "rd"
      refine ⟨D, _, _, rfl, rfl, hX, small1000 (by omega), ?_⟩
      have hX1 := @upd_same X D (.lst (as.map V.ref ++ [V.ref a]))
      have g4 : Same G (upd X D (.lst (as.map V.ref ++ [V.ref a]))) := g1.wr g2
      generalize upd X D (.lst (as.map V.ref ++ [V.ref a])) = X1 at *
      walk_at "rd"
      intro B hB
      have hBD : B ≠ D := (ne_of_none hX1 hB).symm
      have hGB : G B = none := g4.fr hB
      have g5 : Same G (upd X1 B (.lst [])) := g4.trans (same_new hB _)
      have hX2 : upd X1 B (.lst []) D = some (.lst (as.map V.ref ++ [V.ref a])) := (upd_ne hBD.symm).trans hX1
      have hB2 := @upd_same X1 B (.lst [])
      generalize upd X1 B (.lst []) = X2 at *
      have hbound : (ts.flatMap T.kids).length ≤ 400 := by have := len_sizes (ts.flatMap T.kids); omega
      dsimp only
      refine for_sq (n := 3) (G := G) (a := a) (xs := us) ?_ ha (fun i σ Y => ∃ (bs : List V) (s5 s6 : Option V), σ = [some v, some (.ref D), some (.int (((ns.sum : Nat) : Int) + ((us.length : Nat) : Int))), some (.ref a), some (.ref B), s5, s6] ∧ Same G Y ∧
        Y D = some (.lst (as.map V.ref ++ [V.ref a])) ∧ Y B = some (.lst bs) ∧ Al (fun u k => Tm K G0 u k) bs ((ts.take i).flatMap T.kids)) ?_ (fun i σ Y ⟨_, _, _, _, z, _⟩ => z) ?_ ?_
      · rfl
      · exact ⟨[], _, _, rfl, g5, hX2, hB2, Al.nil⟩
      · rintro i x σ Y hx ⟨bs, s5, s6, rfl, k1, k2, k3, k4⟩
        have hi := (List.getElem?_eq_some_iff.mp hx).1
        have ht : ts[i]? = some (ts[i]'(by omega)) := List.getElem?_eq_getElem (by omega)
        have htm := hal.2 i x _ hx ht
        have hwt := hw _ (List.getElem_mem (by omega : i < ts.length))
        have etk : (ts.take (i + 1)).flatMap T.kids = (ts.take i).flatMap T.kids ++ (ts[i]'(by omega)).kids := by
          rw [List.take_add_one, ht, List.flatMap_append]
          show _ ++ (_ ++ []) = _
          rw [List.append_nil]
        have elen : ((ts.take (i + 1)).flatMap T.kids).length ≤ (ts.flatMap T.kids).length := by
          have z := congrArg (fun l => (l.flatMap T.kids).length) (List.take_append_drop (i + 1) ts)
          simp only [List.flatMap_append, List.length_append] at z
          omega
        generalize ts[i]'(by omega) = k at *
        refine ⟨_, rfl, ?_⟩
        walk_at "rd"
        refine ⟨x, k, G0, rfl, hG.trans (g3.trans k1), htm, hwt, fun r Y1 vs S1 hr halv => ?_⟩
        refine ⟨_, rfl, ?_⟩
        walk_at "rd"
        have hlk := congrArg List.length etk
        rw [List.length_append] at hlk
        have hv1 := halv.1
        have hb1 := k4.1
        refine ⟨.inl ⟨rfl, _, SqL.of (S1 _ _ k3)⟩, ?_⟩
        walk_at "rd"
        refine ⟨B, r, bs, vs, rfl, rfl, S1 _ _ k3, hr.sq (hG.trans (g3.trans (k1.trans S1))), sz (by omega), ?_⟩
        refine ⟨bs ++ vs, _, _, rfl, (k1.trans S1).wr hGB, (upd_ne hBD.symm).trans (S1 _ _ k2), upd_same, ?_⟩
        rw [etk]
        exact k4.app halv
      · rintro σ Y ⟨bs, s5, s6, rfl, k1, k2, k3, k4⟩
        walk_at "rd"
        rw [hlen, List.take_length] at k4
        have gD : Same G (off D Y) := k1.off g2
        refine ⟨⟨B, bs, ts.flatMap T.kids, as ++ [a], ns ++ [us.length], some (.ref B), s5, s6, off D Y, ?_, off_same, off_at, g3.trans gD, ?_, .inl (SqL.of ((off_ne hBD).trans k3)), k4, ?_, ?_, ?_, ?_⟩, ?_⟩
        · simp
        · rw [k2]
          simp
        · intro k hk
          obtain ⟨u, hu, hk⟩ := List.mem_flatMap.mp hk
          cases u
          exact (hw _ hu).kid hk
        · exact (hlv.mono fun b n _ ⟨us, z, e⟩ => ⟨us, z.same gD, e⟩).snoc ⟨us, ha.same gD, rfl⟩
        · rw [List.sum_append]
          simp only [List.sum_cons, List.sum_nil]
          omega
        · rw [List.length_append]
          simp only [List.length_cons, List.length_nil]
          omega
        · rw [k2, hX]
          simp only [List.length_append, List.length_map, List.length_cons, List.length_nil]
          omega
  · intro σ X Q1 Q2 m z
    obtain ⟨x, e, k, e1, z⟩ := z
    exact ⟨x, e, k, e1, m _ _ z⟩
end
end Vt


set_option Elab.async false
set_option linter.all false
set_option maxRecDepth 100000
set_option maxHeartbeats 4000000

namespace Vt
open PySem PySem.Spec PyProof.Rows L2
/-! ### check_term, paths -/
def spChecked (K : PySem.W.Frag) : Sp := fun vs H Q _ => ∃ (v : V) (t : T) (G0 : Hp), vs = [v] ∧ Same G0 H ∧ Tm K G0 v t ∧ Wt t ∧ t.size ≤ 400 ∧ t.deep ≤ 100 ∧ ∀ H', Same H H' → Q .non H'
abbrev s_levels_of : Stmt := topS 40
abbrev N_levels_of : List Str := ["term", "levels"]
theorem sc_levels_of : FnScope N_levels_of ["term"] (defScope s_levels_of) := ⟨rfl, rfl, rfl, by decide +kernel, rfl, by decide +kernel, by decide +kernel⟩
abbrev s_check_term : Stmt := topS 41
abbrev N_check_term : List Str := ["value"]
theorem sc_check_term : FnScope N_check_term ["value"] (defScope s_check_term) := ⟨rfl, rfl, rfl, by decide +kernel, rfl, by decide +kernel, by decide +kernel⟩
section
variable {P : Program} {w : World} {K : PySem.W.Frag} {mg : Str → Option Value} {base : Heap}
theorem ok_levels_of (S : Stands K mg "levels_of" s_levels_of ["term"]) (Z : Blt mg) (H_levels_if_term : DefOk P w K mg base CX0 6 "levels_if_term" ["value"] (spLevels K)) : DefOk P w K mg base CX0 7 "levels_of" ["term"] (spLevels K) := by
  obtain ⟨f, fd, F, hm, hb⟩ := S
  obtain ⟨f_levels_if_term, fd_levels_if_term, G_levels_if_term, m_levels_if_term, k_levels_if_term, b_levels_if_term⟩ := H_levels_if_term
  refine ⟨f, fd, ?_, hm, F.kp, hb⟩
  have nd := sc_levels_of.nd
  refine F.ok sc_levels_of (fun vs H Q E h => ?_) (fun cdv A outer s0 H vs Q E hr h => ?_)
  · obtain ⟨v, t, G0, rfl, _⟩ := h
    rfl
  obtain ⟨v, t, G0, rfl, hG, hT, hW, hsz, hdp, q⟩ := h
  refine ⟨_, (pss_cons (ps_set (i := 1) nd rfl (Or.inl rfl) (pe_call G_levels_if_term (hr.mono (by decide)) rfl m_levels_if_term k_levels_if_term b_levels_if_term .nil pass0 (pa_cons (pv 0) pa_nil)))
      (C8.pss_cut (ps_if (pt_cmpR op_isN (pv 1) pe_non (nomark _)) (pss_one (ps_never)) pss_nil)
      (pss_one (ps_ret (pv 1))))), ?_⟩
  walk_at "rd"
  refine ⟨v, t, G0, rfl, hG, hT, hW, hsz, hdp, fun r H1 as ns S1 hr hl e1 e2 al => ?_⟩
  refine gName_to ?_
  refine ⟨fun σ X => σ = [some v, some (.ref r)] ∧ X = H1, ?_, ?_⟩
  · walk_at "rd"
    rfl
  · rintro σ X ⟨rfl, rfl⟩
    walk_at "rd"
    exact q r _ as ns S1 hr hl e1 e2 al
theorem ok_check_term (S : Stands K mg "check_term" s_check_term ["value"]) (H_levels_of : DefOk P w K mg base CX0 7 "levels_of" ["term"] (spLevels K)) : DefOkF P w K mg base CX0 8 "check_term" s_check_term ["value"] (spChecked K) := by
  obtain ⟨f, fd, F, hm, hb⟩ := S
  obtain ⟨f_levels_of, fd_levels_of, G_levels_of, m_levels_of, k_levels_of, b_levels_of⟩ := H_levels_of
  refine ⟨f, fd, F, ?_, hm, F.kp, hb⟩
  have nd := sc_check_term.nd
  refine F.ok sc_check_term (fun vs H Q E h => ?_) (fun cdv A outer s0 H vs Q E hr h => ?_)
  · obtain ⟨v, t, G0, rfl, _⟩ := h
    rfl
  obtain ⟨v, t, G0, rfl, hG, hT, hW, hsz, hdp, q⟩ := h
  refine ⟨_, (pss_one (ps_expr (pe_call G_levels_of (hr.mono (by decide)) rfl m_levels_of k_levels_of b_levels_of .nil pass0 (pa_cons (pv 0) pa_nil)))), ?_⟩
  walk_at "rd"
  exact ⟨v, t, G0, rfl, hG, hT, hW, hsz, hdp, fun r H1 as ns S1 hr hl e1 e2 al => q H1 S1⟩
end
end Vt


set_option Elab.async false
set_option linter.all false
set_option maxRecDepth 100000
set_option maxHeartbeats 4000000
namespace Vt
open PySem PySem.Spec PyProof.Rows L2 TL
theorem len_two {α : Type} {l : List α} (h : l.length = 2) : ∃ a b, l = [a, b] := by
  match l, h with
  | [a, b], _ => exact ⟨a, b, rfl⟩
theorem len_three {α : Type} {l : List α} (h : l.length = 3) : ∃ a b c, l = [a, b, c] := by
  match l, h with
  | [a, b, c], _ => exact ⟨a, b, c, rfl⟩
/-! ### the words of a term -/
/-- an integer as it is written -/
def intS (k : Int) : Str := Str.ofString (toString k)
/-- a word, and whether it stands as a name -/
abbrev Wd := Bool × Str
def wd (x : Str) : Wd := (false, x)
def nmW (x : Str) : Wd := (true, x)
def sepd : List (List Wd) → List Wd
  | [] => []
  | [a] => a
  | a :: b :: r => a ++ wd "," :: sepd (b :: r)
def flds : List Str → List (List Wd) → List (List Wd)
  | n :: ns, a :: r => (nmW n :: wd "=" :: a) :: flds ns r
  | _, _ => []
def Hd.toks : Hd → List (List Wd) → List Wd
  | .var n, _ => [nmW n]
  | .int k, _ => [wd (intS k)]
  | .bool b, _ => [wd (if b then "true" else "false")]
  | .fn n, [a] => wd "(" :: wd "fun" :: nmW n :: wd "." :: (a ++ [wd ")"])
  | .app, [a, b] => wd "(" :: (a ++ (b ++ [wd ")"]))
  | .lt n, [a, b] => wd "(" :: wd "let" :: nmW n :: wd "=" :: (a ++ wd "in" :: (b ++ [wd ")"]))
  | .rc n, [a, b] => wd "(" :: wd "rec" :: nmW n :: wd "=" :: (a ++ wd "in" :: (b ++ [wd ")"]))
  | .cond, [a, b, c] => wd "(" :: wd "if" :: (a ++ wd "then" :: (b ++ wd "else" :: (c ++ [wd ")"])))
  | .tup, r => wd "(" :: (sepd r ++ [wd ")"])
  | .part k z, [a] => wd "(" :: wd (intS k) :: wd "of" :: wd (intS z) :: (a ++ [wd ")"])
  | .record ls, r => wd "{" :: (sepd (flds ls r) ++ [wd "}"])
  | .field n, [a] => wd "(" :: (a ++ [wd ".", nmW n, wd ")"])
  | .wth n, [a, b] => wd "(" :: (a ++ wd "with" :: nmW n :: wd "=" :: (b ++ [wd ")"]))
  | _, _ => []
mutual
def T.toks : T → List Wd
  | .node h ks => h.toks (T.tokss ks)
def T.tokss : List T → List (List Wd)
  | [] => []
  | t :: r => t.toks :: T.tokss r
end
/-- the words of the text -/
def T.wds (t : T) : List Str := t.toks.map (·.2)
/-- the names that are no names in texts, in the order of the text -/
def T.bads (t : T) : List Str := (t.toks.filter fun x => x.1 && decide (x.2 ∈ noNames)).map (·.2)
theorem tokss_len : ∀ ks : List T, (T.tokss ks).length = ks.length
  | [] => rfl
  | t :: r => by simp only [T.tokss, List.length_cons, tokss_len r]
theorem mem_tokss {ks : List T} {a : List Wd} (h : a ∈ T.tokss ks) : ∃ t ∈ ks, a = t.toks := by
  induction ks with
  | nil => simp [T.tokss] at h
  | cons t r ih =>
    simp only [T.tokss, List.mem_cons] at h
    rcases h with rfl | h
    · exact ⟨t, List.mem_cons_self, rfl⟩
    · obtain ⟨u, m, e⟩ := ih h
      exact ⟨u, List.mem_cons_of_mem _ m, e⟩
theorem mem_sepd {x : Wd} : ∀ {r : List (List Wd)}, x ∈ sepd r → x = wd "," ∨ ∃ a ∈ r, x ∈ a
  | [], h => by simp [sepd] at h
  | [a], h => .inr ⟨a, by simp, h⟩
  | a :: b :: r, h => by
    simp only [sepd, List.mem_append, List.mem_cons] at h
    rcases h with h | h | h
    · exact .inr ⟨a, by simp, h⟩
    · exact .inl h
    · rcases mem_sepd (r := b :: r) h with h | ⟨c, m, h⟩
      · exact .inl h
      · exact .inr ⟨c, List.mem_cons_of_mem _ m, h⟩
theorem mem_flds {a : List Wd} : ∀ {ns : List Str} {r : List (List Wd)}, a ∈ flds ns r → ∃ n ∈ ns, ∃ b ∈ r, a = nmW n :: wd "=" :: b
  | n :: ns, b :: r, h => by
    simp only [flds, List.mem_cons] at h
    rcases h with rfl | h
    · exact ⟨n, by simp, b, by simp, rfl⟩
    · obtain ⟨m, hm, c, hc, e⟩ := mem_flds h
      exact ⟨m, List.mem_cons_of_mem _ hm, c, List.mem_cons_of_mem _ hc, e⟩
  | [], _, h => by simp [flds] at h
  | _ :: _, [], h => by simp [flds] at h
/-- a word has signs, none of them a blank -/
def okWord (x : Str) : Prop := x.cps.toList ≠ [] ∧ 32 ∉ x.cps.toList
theorem okWord_name {x : Str} (h : isName x) : okWord x := by
  obtain ⟨a, b, c⟩ := h
  refine ⟨fun e => ?_, fun m => by have := c 32 m; omega⟩
  have : x.length = 0 := by simp [Str.length, ← Array.length_toList, e]
  omega
theorem intS_cases (k : Int) : ∃ n : Nat, (k = n ∧ tl (intS k) = numL n) ∨ (k = -n ∧ 0 < n ∧ tl (intS k) = 45 :: numL n) := by
  cases k with
  | ofNat n => exact ⟨n, .inl ⟨rfl, tl_num n⟩⟩
  | negSucc n =>
    refine ⟨n + 1, .inr ⟨by omega, by omega, ?_⟩⟩
    have h := tl_num (n + 1)
    rw [intS, tl_ofString] at *
    rw [show toString (Int.negSucc n) = "-" ++ toString (((n + 1 : Nat)) : Int) from rfl, String.toList_append, List.map_append]
    rw [h]
    rfl
theorem okWord_int (k : Int) : okWord (intS k) := by
  obtain ⟨n, ⟨_, e⟩ | ⟨_, _, e⟩⟩ := intS_cases k
  · exact ⟨fun h => numL_ne n (by rw [← e]; exact h), fun h => numL_free (n := n) (s := 32) (by omega) (by rw [← e]; exact h)⟩
  · refine ⟨fun h => ?_, fun h => ?_⟩
    · have : tl (intS k) = [] := h
      rw [e] at this
      cases this
    · have : 32 ∈ tl (intS k) := h
      rw [e, List.mem_cons] at this
      rcases this with h | h
      · cases h
      · exact numL_free (n := n) (s := 32) (by omega) h
theorem okWord_of {x : Str} (h : (decide (x.cps.toList ≠ []) && decide (32 ∉ x.cps.toList)) = true) : okWord x := by
  rw [Bool.and_eq_true] at h
  exact ⟨of_decide_eq_true h.1, of_decide_eq_true h.2⟩
theorem toks_ok : ∀ (t : T), Wt t → (∀ x ∈ t.toks, okWord x.2 ∧ (x.1 = true → isName x.2)) ∧ t.toks ≠ []
  | .node h ks, w => by
    have ih : ∀ t ∈ ks, (∀ x ∈ t.toks, okWord x.2 ∧ (x.1 = true → isName x.2)) ∧ t.toks ≠ [] := fun t m => toks_ok t (w.kid m)
    have iw := w.hd
    have q : ∀ y : Str, (decide (y.cps.toList ≠ []) && decide (32 ∉ y.cps.toList)) = true → okWord (wd y).2 ∧ ((wd y).1 = true → isName (wd y).2) := fun y hy => ⟨okWord_of hy, fun e => nomatch e⟩
    have qn : ∀ y : Str, isName y → okWord (nmW y).2 ∧ ((nmW y).1 = true → isName (nmW y).2) := fun y hy => ⟨okWord_name hy, fun _ => hy⟩
    have qi : ∀ i : Int, okWord (wd (intS i)).2 ∧ ((wd (intS i)).1 = true → isName (wd (intS i)).2) := fun i => ⟨okWord_int i, fun e => nomatch e⟩
    cases h with
    | var n => simp only [okHd] at iw; exact ⟨fun x m => by simp only [T.toks, Hd.toks, List.mem_singleton] at m; subst m; exact qn n iw.2, by simp [T.toks, Hd.toks]⟩
    | int k => exact ⟨fun x m => by simp only [T.toks, Hd.toks, List.mem_singleton] at m; subst m; exact qi k, by simp [T.toks, Hd.toks]⟩
    | bool b => exact ⟨fun x m => by simp only [T.toks, Hd.toks, List.mem_singleton] at m; subst m; cases b <;> exact q _ (by decide), by simp [T.toks, Hd.toks]⟩
    | fn n =>
      simp only [okHd] at iw
      obtain ⟨a, rfl⟩ := List.length_eq_one_iff.mp iw.1
      refine ⟨fun x m => ?_, by simp [T.toks, Hd.toks, T.tokss]⟩
      simp only [T.toks, T.tokss, Hd.toks, List.mem_cons, List.mem_append, List.not_mem_nil, or_false] at m
      rcases m with rfl | rfl | rfl | rfl | m | rfl
      all_goals first | exact q _ (by decide) | exact qn n iw.2 | exact (ih a (by simp)).1 x m
    | app =>
      simp only [okHd] at iw
      obtain ⟨a, b, rfl⟩ := len_two iw
      refine ⟨fun x m => ?_, by simp [T.toks, Hd.toks, T.tokss]⟩
      simp only [T.toks, T.tokss, Hd.toks, List.mem_cons, List.mem_append, List.not_mem_nil, or_false] at m
      rcases m with rfl | m | m | rfl
      all_goals first | exact q _ (by decide) | exact (ih a (by simp)).1 x m | exact (ih b (by simp)).1 x m
    | lt n =>
      simp only [okHd] at iw
      obtain ⟨a, b, rfl⟩ := len_two iw.1
      refine ⟨fun x m => ?_, by simp [T.toks, Hd.toks, T.tokss]⟩
      simp only [T.toks, T.tokss, Hd.toks, List.mem_cons, List.mem_append, List.not_mem_nil, or_false] at m
      rcases m with rfl | rfl | rfl | rfl | m | rfl | m | rfl
      all_goals first | exact q _ (by decide) | exact qn n iw.2 | exact (ih a (by simp)).1 x m | exact (ih b (by simp)).1 x m
    | rc n =>
      simp only [okHd] at iw
      obtain ⟨a, b, rfl⟩ := len_two iw.1
      refine ⟨fun x m => ?_, by simp [T.toks, Hd.toks, T.tokss]⟩
      simp only [T.toks, T.tokss, Hd.toks, List.mem_cons, List.mem_append, List.not_mem_nil, or_false] at m
      rcases m with rfl | rfl | rfl | rfl | m | rfl | m | rfl
      all_goals first | exact q _ (by decide) | exact qn n iw.2 | exact (ih a (by simp)).1 x m | exact (ih b (by simp)).1 x m
    | cond =>
      simp only [okHd] at iw
      obtain ⟨a, b, c, rfl⟩ := len_three iw
      refine ⟨fun x m => ?_, by simp [T.toks, Hd.toks, T.tokss]⟩
      simp only [T.toks, T.tokss, Hd.toks, List.mem_cons, List.mem_append, List.not_mem_nil, or_false] at m
      rcases m with rfl | rfl | m | rfl | m | rfl | m | rfl
      all_goals first | exact q _ (by decide) | exact (ih a (by simp)).1 x m | exact (ih b (by simp)).1 x m | exact (ih c (by simp)).1 x m
    | tup =>
      refine ⟨fun x m => ?_, by simp [T.toks, Hd.toks]⟩
      simp only [T.toks, Hd.toks, List.mem_cons, List.mem_append, List.not_mem_nil, or_false] at m
      rcases m with rfl | m | rfl
      · exact q _ (by decide)
      · rcases mem_sepd m with rfl | ⟨a, ma, mx⟩
        · exact q _ (by decide)
        · obtain ⟨t, mt, rfl⟩ := mem_tokss ma
          exact (ih t mt).1 x mx
      · exact q _ (by decide)
    | part k z =>
      simp only [okHd] at iw
      obtain ⟨a, rfl⟩ := List.length_eq_one_iff.mp iw.1
      refine ⟨fun x m => ?_, by simp [T.toks, Hd.toks, T.tokss]⟩
      simp only [T.toks, T.tokss, Hd.toks, List.mem_cons, List.mem_append, List.not_mem_nil, or_false] at m
      rcases m with rfl | rfl | rfl | rfl | m | rfl
      all_goals first | exact q _ (by decide) | exact qi _ | exact (ih a (by simp)).1 x m
    | record ls =>
      simp only [okHd] at iw
      refine ⟨fun x m => ?_, by simp [T.toks, Hd.toks]⟩
      simp only [T.toks, Hd.toks, List.mem_cons, List.mem_append, List.not_mem_nil, or_false] at m
      rcases m with rfl | m | rfl
      · exact q _ (by decide)
      · rcases mem_sepd m with rfl | ⟨a, ma, mx⟩
        · exact q _ (by decide)
        · obtain ⟨n, hn, b, hb, rfl⟩ := mem_flds ma
          obtain ⟨t, mt, rfl⟩ := mem_tokss hb
          simp only [List.mem_cons] at mx
          rcases mx with rfl | rfl | mx
          · exact qn n (iw.2.2.1 n hn)
          · exact q _ (by decide)
          · exact (ih t mt).1 x mx
      · exact q _ (by decide)
    | field n =>
      simp only [okHd] at iw
      obtain ⟨a, rfl⟩ := List.length_eq_one_iff.mp iw.1
      refine ⟨fun x m => ?_, by simp [T.toks, Hd.toks, T.tokss]⟩
      simp only [T.toks, T.tokss, Hd.toks, List.mem_cons, List.mem_append, List.not_mem_nil, or_false] at m
      rcases m with rfl | m | rfl | rfl | rfl
      all_goals first | exact q _ (by decide) | exact qn n iw.2 | exact (ih a (by simp)).1 x m
    | wth n =>
      simp only [okHd] at iw
      obtain ⟨a, b, rfl⟩ := len_two iw.1
      refine ⟨fun x m => ?_, by simp [T.toks, Hd.toks, T.tokss]⟩
      simp only [T.toks, T.tokss, Hd.toks, List.mem_cons, List.mem_append, List.not_mem_nil, or_false] at m
      rcases m with rfl | m | rfl | rfl | rfl | m | rfl
      all_goals first | exact q _ (by decide) | exact qn n iw.2 | exact (ih a (by simp)).1 x m | exact (ih b (by simp)).1 x m
termination_by t => sizeOf t
decreasing_by
  all_goals simp_wf
  all_goals (have := List.sizeOf_lt_of_mem m; omega)
end Vt


set_option Elab.async false
set_option linter.all false
set_option maxRecDepth 100000
set_option maxHeartbeats 4000000
namespace Vt
open PySem PySem.Spec PyProof.Rows L2 TL
/-! ### how words are read -/
/-- what is built of values -/
inductive Bd where
  | item | entry | fn | lt | rc | cond | part | app | field | wth | tuple | record
def Bd.word : Bd → Str
  | .item => "item" | .entry => "entry" | .fn => "fun" | .lt => "let" | .rc => "rec" | .cond => "if" | .part => "part" | .app => "app" | .field => "field" | .wth => "with" | .tuple => "tuple" | .record => "record"
/-- what is wanted next -/
inductive Wn where
  | word (x : Str) | name | integer | term | opened | begun (o : Bool) | items | fields (first : Bool) | build (b : Bd)
def Wn.what : Wn → Str
  | .word _ => "word" | .name => "name" | .integer => "integer" | .term => "term" | .opened => "opened" | .begun _ => "begun" | .items => "items" | .fields _ => "fields" | .build _ => "build"
def Wn.which : Wn → Str
  | .word x => x | .begun true => "of" | .fields true => "{" | .build b => b.word | _ => ""
/-- what has been read -/
inductive Vl where
  | tm (t : T) | nm (x : Str) | num (k : Int) | items (ts : List T) | flds (ls : List Str) (ts : List T)
def bld : Bd → List Vl → Option (List Vl)
  | .item, .tm t :: .items ts :: V => some (.items (ts ++ [t]) :: V)
  | .entry, .tm t :: .nm n :: .flds ls ts :: V => some (.flds (ls ++ [n]) (ts ++ [t]) :: V)
  | .fn, .tm a :: .nm n :: V => some (.tm (.node (.fn n) [a]) :: V)
  | .lt, .tm b :: .tm a :: .nm n :: V => some (.tm (.node (.lt n) [a, b]) :: V)
  | .rc, .tm b :: .tm a :: .nm n :: V => some (.tm (.node (.rc n) [a, b]) :: V)
  | .cond, .tm c :: .tm b :: .tm a :: V => some (.tm (.node .cond [a, b, c]) :: V)
  | .part, .tm a :: .num z :: .num k :: V => some (.tm (.node (.part k z) [a]) :: V)
  | .app, .tm b :: .tm a :: V => some (.tm (.node .app [a, b]) :: V)
  | .field, .nm n :: .tm a :: V => some (.tm (.node (.field n) [a]) :: V)
  | .wth, .tm b :: .nm n :: .tm a :: V => some (.tm (.node (.wth n) [a, b]) :: V)
  | .tuple, .items ts :: V => some (.tm (.node .tup ts) :: V)
  | .record, .flds ls ts :: V => some (.tm (.node (.record ls) ts) :: V)
  | _, _ => none
/-- build what can be built -/
def blds : List Wn → List Vl → Option (List Wn × List Vl)
  | .build b :: W, V => match bld b V with
    | some V' => blds W V'
    | none => none
  | W, V => some (W, V)
/-- the integer that a word is -/
def isNum (x : Str) : Prop := ∃ k : Int, x = intS k
/-- a word that can begin no other term than a name -/
structure PureName (x : Str) : Prop where
  nm : isName x
  no : x ∉ noNames
/-- the state behind the first word of a term -/
inductive TakeT : Str → List Wn → List Vl → List Wn → List Vl → Prop
  | paren {W V} : TakeT "(" W V (.opened :: W) V
  | brace {W V} : TakeT "{" W V (.fields true :: W) (.flds [] [] :: V)
  | bool {b : Bool} {W V} : TakeT (if b then "true" else "false") W V W (.tm (.node (.bool b) []) :: V)
  | int {k W V} : TakeT (intS k) W V W (.tm (.node (.int k) []) :: V)
  | var {n W V} : PureName n → TakeT n W V W (.tm (.node (.var n) []) :: V)
/-- what stands behind the word that tells the kind -/
def bhFun : List Wn := [.name, .word ".", .term, .word ")", .build .fn]
def bhLet : List Wn := [.name, .word "=", .term, .word "in", .term, .word ")", .build .lt]
def bhRec : List Wn := [.name, .word "=", .term, .word "in", .term, .word ")", .build .rc]
def bhIf : List Wn := [.term, .word "then", .term, .word "else", .term, .word ")", .build .cond]
def bhOf : List Wn := [.integer, .term, .word ")", .build .part]
def bhApp : List Wn := [.word ")", .build .app]
def bhDot : List Wn := [.name, .word ")", .build .field]
def bhWith : List Wn := [.name, .word "=", .term, .word ")", .build .wth]
def bhComma : List Wn := [.term, .build .item, .items]
def bhEq : List Wn := [.word "=", .term, .build .entry, .fields false]
/-- a word begins a term that is a number -/
noncomputable def numFlag (x : Str) : Bool := @decide (isNum x) (Classical.propDecidable _)
/-- the state behind a word -/
inductive Take : Wn → Str → List Wn → List Vl → List Wn → List Vl → Prop
  | word {x W V} : Take (.word x) x W V W V
  | name {n W V} : PureName n → Take .name n W V W (.nm n :: V)
  | integer {k W V} : Take .integer (intS k) W V W (.num k :: V)
  | term {x W V W' V'} : TakeT x W V W' V' → Take .term x W V W' V'
  | oFun {W V} : Take .opened "fun" W V (bhFun ++ W) V
  | oLet {W V} : Take .opened "let" W V (bhLet ++ W) V
  | oRec {W V} : Take .opened "rec" W V (bhRec ++ W) V
  | oIf {W V} : Take .opened "if" W V (bhIf ++ W) V
  | oTerm {x W V W' V'} : TakeT x (.begun (numFlag x) :: W) V W' V' → Take .opened x W V W' V'
  | bOf {k W V} : Take (.begun true) "of" W (.tm (.node (.int k) []) :: V) (bhOf ++ W) (.num k :: V)
  | bComma {o t W V} : Take (.begun o) "," W (.tm t :: V) (bhComma ++ W) (.items [t] :: V)
  | bDot {o W V} : Take (.begun o) "." W V (bhDot ++ W) V
  | bWith {o W V} : Take (.begun o) "with" W V (bhWith ++ W) V
  | bTerm {o x W V W' V'} : TakeT x (bhApp ++ W) V W' V' → Take (.begun o) x W V W' V'
  | iComma {W V} : Take .items "," W V (bhComma ++ W) V
  | iEnd {W V} : Take .items ")" W V (.build .tuple :: W) V
  | fEnd {b W V} : Take (.fields b) "}" W V (.build .record :: W) V
  | fName {n W V} : PureName n → Take (.fields true) n W V (bhEq ++ W) (.nm n :: V)
  | fComma {W V} : Take (.fields false) "," W V (.name :: (bhEq ++ W)) V
/-- a word is read, and all is built that can be built -/
inductive Step : Str → List Wn → List Vl → List Wn → List Vl → Prop
  | mk {c x W V W1 V1 W2 V2} : Take c x W V W1 V1 → blds W1 V1 = some (W2, V2) → Step x (c :: W) V W2 V2
inductive Steps : List Str → List Wn → List Vl → List Wn → List Vl → Prop
  | nil {W V} : Steps [] W V W V
  | cons {x r W V W1 V1 W2 V2} : Step x W V W1 V1 → Steps r W1 V1 W2 V2 → Steps (x :: r) W V W2 V2
theorem Steps.app {a b : List Str} {W V W1 V1 W2 V2} (h : Steps a W V W1 V1) (k : Steps b W1 V1 W2 V2) : Steps (a ++ b) W V W2 V2 := by
  induction h with
  | nil => exact k
  | cons s _ ih => exact .cons s (ih k)
theorem Steps.one {x : Str} {W V W1 V1} (h : Step x W V W1 V1) : Steps [x] W V W1 V1 := .cons h .nil
theorem blds_id {c : Wn} {W : List Wn} {V : List Vl} (h : ∀ b, c ≠ .build b) : blds (c :: W) V = some (c :: W, V) := by
  cases c <;> first | rfl | exact absurd rfl (h _)
/-- what the words of a term do behind the place of the first one -/
def Rd (t : T) : Prop := ∀ x r, t.wds = x :: r → ∀ W V W2 V2, blds W (.tm t :: V) = some (W2, V2) → ∃ W1 V1 Wi Vi, TakeT x W V W1 V1 ∧ blds W1 V1 = some (Wi, Vi) ∧ Steps r Wi Vi W2 V2
section
variable {x : Str} {c : Wn} {r : List Str} {a : T} {W W1 W2 W3 : List Wn} {V V1 V2 V3 : List Vl}
theorem s1 (h : Take c x W V W1 V1) (hb : blds W1 V1 = some (W2, V2)) (k : Steps r W2 V2 W3 V3) : Steps (x :: r) (c :: W) V W3 V3 := .cons (.mk h hb) k
theorem wds_cons (h : a.toks ≠ []) : ∃ x r, a.wds = x :: r := by
  unfold T.wds
  match a.toks, h with
  | y :: l, _ => exact ⟨y.2, l.map (·.2), rfl⟩
theorem sT (hn : a.toks ≠ []) (h : Rd a) (hb : blds W (.tm a :: V) = some (W1, V1)) (k : Steps r W1 V1 W2 V2) : Steps (a.wds ++ r) (.term :: W) V W2 V2 := by
  obtain ⟨x, l, e⟩ := wds_cons hn
  obtain ⟨Wa, Va, Wi, Vi, h1, h2, h3⟩ := h x l e W V W1 V1 hb
  rw [e]
  exact .cons (.mk (.term h1) h2) (h3.app k)
theorem sO (hn : a.toks ≠ []) (h : Rd a) (k : ∀ o, Steps r (.begun o :: W) (.tm a :: V) W2 V2) : Steps (a.wds ++ r) (.opened :: W) V W2 V2 := by
  obtain ⟨x, l, e⟩ := wds_cons hn
  obtain ⟨Wa, Va, Wi, Vi, h1, h2, h3⟩ := h x l e (.begun (numFlag x) :: W) V _ _ (blds_id fun b => by simp)
  rw [e]
  exact .cons (.mk (.oTerm h1) h2) (h3.app (k _))
theorem sB {o : Bool} (hn : a.toks ≠ []) (h : Rd a) (k : Steps r (bhApp ++ W) (.tm a :: V) W2 V2) : Steps (a.wds ++ r) (.begun o :: W) V W2 V2 := by
  obtain ⟨x, l, e⟩ := wds_cons hn
  obtain ⟨Wa, Va, Wi, Vi, h1, h2, h3⟩ := h x l e (bhApp ++ W) V _ _ (blds_id fun b => by simp)
  rw [e]
  exact .cons (.mk (.bTerm h1) h2) (h3.app k)
end
/-- commas ahead of each -/
def commas : List (List Wd) → List Wd
  | [] => []
  | a :: r => wd "," :: (a ++ commas r)
theorem sepd_cons (a : List Wd) : ∀ r : List (List Wd), sepd (a :: r) = a ++ commas r
  | [] => by simp [sepd, commas]
  | b :: r => by simp only [sepd, commas, sepd_cons b r]
theorem mem_commas_of {x : Wd} {a : List Wd} : ∀ {r : List (List Wd)}, a ∈ r → x ∈ a → x ∈ commas r
  | c :: r, h, m => by
    simp only [commas, List.mem_cons, List.mem_append]
    rcases List.mem_cons.mp h with rfl | h
    · exact .inr (.inl m)
    · exact .inr (.inr (mem_commas_of h m))
theorem mem_sepd_of {x : Wd} {a : List Wd} : ∀ {r : List (List Wd)}, a ∈ r → x ∈ a → x ∈ sepd r
  | b :: r, h, m => by
    rw [sepd_cons]
    rcases List.mem_cons.mp h with rfl | h
    · exact List.mem_append_left _ m
    · exact List.mem_append_right _ (mem_commas_of h m)
theorem mem_tokss_of {t : T} : ∀ {ks : List T}, t ∈ ks → t.toks ∈ T.tokss ks
  | u :: r, h => by
    rcases List.mem_cons.mp h with rfl | h
    · exact List.mem_cons_self
    · exact List.mem_cons_of_mem _ (mem_tokss_of h)
theorem s_items {W W2 : List Wn} {V V2 : List Vl} : ∀ (us ts : List T), (∀ u ∈ us, u.toks ≠ [] ∧ Rd u) → blds W (.tm (.node .tup (ts ++ us)) :: V) = some (W2, V2) →
    Steps (((commas (T.tokss us)).map (·.2)) ++ [(")" : Str)]) (.items :: W) (.items ts :: V) W2 V2
  | [], ts, _, hb => s1 .iEnd (by rw [← hb, List.append_nil]; rfl) .nil
  | u :: us, ts, h, hb => by
    simp only [T.tokss, commas, List.map_cons, List.map_append, List.cons_append, List.append_assoc]
    have hu := h u List.mem_cons_self
    exact s1 .iComma rfl (sT hu.1 hu.2 (W1 := .items :: W) (V1 := .items (ts ++ [u]) :: V) rfl (s_items us (ts ++ [u]) (fun v m => h v (List.mem_cons_of_mem _ m)) (by rw [List.append_assoc]; exact hb)))
theorem s_fields {W W2 : List Wn} {V V2 : List Vl} : ∀ (ms : List Str) (us : List T) (ls : List Str) (ts : List T), ms.length = us.length → (∀ n ∈ ms, PureName n) → (∀ u ∈ us, u.toks ≠ [] ∧ Rd u) → blds W (.tm (.node (.record (ls ++ ms)) (ts ++ us)) :: V) = some (W2, V2) →
    Steps (((commas (flds ms (T.tokss us))).map (·.2)) ++ [("}" : Str)]) (.fields false :: W) (.flds ls ts :: V) W2 V2
  | [], [], ls, ts, _, _, _, hb => s1 .fEnd (by rw [← hb, List.append_nil, List.append_nil]; rfl) .nil
  | n :: ms, u :: us, ls, ts, e, hn, h, hb => by
    simp only [T.tokss, flds, commas, List.map_cons, List.map_append, List.cons_append, List.append_assoc]
    have hu := h u List.mem_cons_self
    exact s1 .fComma rfl (s1 (.name (hn n List.mem_cons_self)) rfl (s1 .word rfl (sT hu.1 hu.2 (W1 := .fields false :: W) (V1 := .flds (ls ++ [n]) (ts ++ [u]) :: V) rfl
      (s_fields ms us (ls ++ [n]) (ts ++ [u]) (by simpa using e) (fun m k => hn m (List.mem_cons_of_mem _ k)) (fun v m => h v (List.mem_cons_of_mem _ m)) (by rw [List.append_assoc, List.append_assoc]; exact hb)))))
  | [], _ :: _, _, _, e, _, _, _ => by simp at e
  | _ :: _, [], _, _, e, _, _, _ => by simp at e
/-- the names of a term are names in texts -/
def Pure (t : T) : Prop := ∀ x ∈ t.toks, x.1 = true → x.2 ∉ noNames
theorem rd_of : ∀ (t : T), Wt t → Pure t → Rd t
  | .node h ks, w, p => by
    have p' : ∀ x ∈ (T.node h ks).toks, x.1 = true → PureName x.2 := fun x m e => ⟨((toks_ok _ w).1 x m).2 e, p x m e⟩
    have ih : ∀ t ∈ ks, Pure t → Rd t := fun t m => rd_of t (w.kid m)
    have ne : ∀ t ∈ ks, t.toks ≠ [] := fun t m => (toks_ok t (w.kid m)).2
    have iw := w.hd
    intro x r e W V W2 V2 hb
    unfold T.wds at e
    cases h with
    | var n =>
      simp only [T.toks, Hd.toks, List.map_cons, List.map_nil, List.cons.injEq] at e
      obtain ⟨rfl, rfl⟩ := e
      simp only [okHd] at iw
      obtain rfl := List.eq_nil_of_length_eq_zero iw.1
      exact ⟨_, _, _, _, .var (p' (nmW n) (by simp [T.toks, Hd.toks]) rfl), hb, .nil⟩
    | int k =>
      simp only [T.toks, Hd.toks, List.map_cons, List.map_nil, List.cons.injEq] at e
      obtain ⟨rfl, rfl⟩ := e
      simp only [okHd] at iw
      obtain rfl := List.eq_nil_of_length_eq_zero iw.1
      exact ⟨_, _, _, _, .int, hb, .nil⟩
    | bool b =>
      simp only [T.toks, Hd.toks, List.map_cons, List.map_nil, List.cons.injEq] at e
      obtain ⟨rfl, rfl⟩ := e
      simp only [okHd] at iw
      obtain rfl := List.eq_nil_of_length_eq_zero iw
      exact ⟨_, _, _, _, .bool, hb, .nil⟩
    | fn n =>
      simp only [okHd] at iw
      obtain ⟨a, rfl⟩ := List.length_eq_one_iff.mp iw.1
      simp only [T.toks, T.tokss, Hd.toks, List.map_cons, List.map_append, List.map_nil, List.cons.injEq] at e
      obtain ⟨rfl, rfl⟩ := e
      have ra := ih a (by simp) fun y m => p y (by simp [T.toks, T.tokss, Hd.toks, m])
      refine ⟨_, _, _, _, .paren, rfl, ?_⟩
      exact s1 .oFun rfl (s1 (.name (p' (nmW n) (by simp [T.toks, T.tokss, Hd.toks]) rfl)) rfl (s1 .word rfl (sT (ne a (by simp)) ra rfl (s1 .word hb .nil))))
    | app =>
      simp only [okHd] at iw
      obtain ⟨a, b, rfl⟩ := len_two iw
      simp only [T.toks, T.tokss, Hd.toks, List.map_cons, List.map_append, List.map_nil, List.cons.injEq] at e
      obtain ⟨rfl, rfl⟩ := e
      have ra := ih a (by simp) fun y m => p y (by simp [T.toks, T.tokss, Hd.toks, m])
      have rb := ih b (by simp) fun y m => p y (by simp [T.toks, T.tokss, Hd.toks, m])
      refine ⟨_, _, _, _, .paren, rfl, ?_⟩
      exact sO (ne a (by simp)) ra fun o => sB (ne b (by simp)) rb (s1 .word hb .nil)
    | lt n =>
      simp only [okHd] at iw
      obtain ⟨a, b, rfl⟩ := len_two iw.1
      simp only [T.toks, T.tokss, Hd.toks, List.map_cons, List.map_append, List.map_nil, List.cons.injEq] at e
      obtain ⟨rfl, rfl⟩ := e
      have ra := ih a (by simp) fun y m => p y (by simp [T.toks, T.tokss, Hd.toks, m])
      have rb := ih b (by simp) fun y m => p y (by simp [T.toks, T.tokss, Hd.toks, m])
      refine ⟨_, _, _, _, .paren, rfl, ?_⟩
      exact s1 .oLet rfl (s1 (.name (p' (nmW n) (by simp [T.toks, T.tokss, Hd.toks]) rfl)) rfl (s1 .word rfl (sT (ne a (by simp)) ra rfl (s1 .word rfl (sT (ne b (by simp)) rb rfl (s1 .word hb .nil))))))
    | rc n =>
      simp only [okHd] at iw
      obtain ⟨a, b, rfl⟩ := len_two iw.1
      simp only [T.toks, T.tokss, Hd.toks, List.map_cons, List.map_append, List.map_nil, List.cons.injEq] at e
      obtain ⟨rfl, rfl⟩ := e
      have ra := ih a (by simp) fun y m => p y (by simp [T.toks, T.tokss, Hd.toks, m])
      have rb := ih b (by simp) fun y m => p y (by simp [T.toks, T.tokss, Hd.toks, m])
      refine ⟨_, _, _, _, .paren, rfl, ?_⟩
      exact s1 .oRec rfl (s1 (.name (p' (nmW n) (by simp [T.toks, T.tokss, Hd.toks]) rfl)) rfl (s1 .word rfl (sT (ne a (by simp)) ra rfl (s1 .word rfl (sT (ne b (by simp)) rb rfl (s1 .word hb .nil))))))
    | cond =>
      simp only [okHd] at iw
      obtain ⟨a, b, c, rfl⟩ := len_three iw
      simp only [T.toks, T.tokss, Hd.toks, List.map_cons, List.map_append, List.map_nil, List.cons.injEq] at e
      obtain ⟨rfl, rfl⟩ := e
      have ra := ih a (by simp) fun y m => p y (by simp [T.toks, T.tokss, Hd.toks, m])
      have rb := ih b (by simp) fun y m => p y (by simp [T.toks, T.tokss, Hd.toks, m])
      have rc := ih c (by simp) fun y m => p y (by simp [T.toks, T.tokss, Hd.toks, m])
      refine ⟨_, _, _, _, .paren, rfl, ?_⟩
      exact s1 .oIf rfl (sT (ne a (by simp)) ra rfl (s1 .word rfl (sT (ne b (by simp)) rb rfl (s1 .word rfl (sT (ne c (by simp)) rc rfl (s1 .word hb .nil))))))
    | tup =>
      simp only [okHd] at iw
      match ks, iw with
      | a :: b :: us, iw =>
        have rk : ∀ u ∈ a :: b :: us, u.toks ≠ [] ∧ Rd u := fun u m => ⟨ne u m, ih u m fun y my => p y (by
          simp only [T.toks, Hd.toks, List.mem_cons, List.mem_append]
          exact .inr (.inl (mem_sepd_of (mem_tokss_of m) my)))⟩
        simp only [T.toks, T.tokss, Hd.toks, sepd_cons, commas, List.map_cons, List.map_append, List.map_nil, List.cons_append, List.append_assoc, List.cons.injEq] at e
        obtain ⟨rfl, rfl⟩ := e
        refine ⟨_, _, _, _, .paren, rfl, ?_⟩
        exact sO (rk a (by simp)).1 (rk a (by simp)).2 fun o => s1 .bComma rfl (sT (rk b (by simp)).1 (rk b (by simp)).2 (W1 := .items :: W) (V1 := .items [a, b] :: V) rfl
          (s_items us [a, b] (fun u m => rk u (by simp [m])) hb))
    | part k z =>
      simp only [okHd] at iw
      obtain ⟨a, rfl⟩ := List.length_eq_one_iff.mp iw.1
      simp only [T.toks, T.tokss, Hd.toks, List.map_cons, List.map_append, List.map_nil, List.cons.injEq] at e
      obtain ⟨rfl, rfl⟩ := e
      have ra := ih a (by simp) fun y m => p y (by simp [T.toks, T.tokss, Hd.toks, m])
      refine ⟨_, _, _, _, .paren, rfl, ?_⟩
      have hf : numFlag (wd (intS k)).snd = true := by
        unfold numFlag
        exact @decide_eq_true _ (Classical.propDecidable _) ⟨k, rfl⟩
      refine s1 (.oTerm .int) (blds_id fun b => by simp) ?_
      rw [hf]
      exact s1 .bOf rfl (s1 .integer rfl (sT (ne a (by simp)) ra rfl (s1 .word hb .nil)))
    | record ls =>
      simp only [okHd] at iw
      have pn : ∀ n ∈ ls, PureName n := by
        intro n m
        refine p' (nmW n) ?_ rfl
        simp only [T.toks, Hd.toks, List.mem_cons, List.mem_append]
        obtain ⟨i, hi, ei⟩ := List.getElem_of_mem m
        have : ∀ (ns : List Str) (us : List T) (i : Nat), ns.length = us.length → ∀ hi : i < ns.length, ∃ b, (nmW ns[i] :: wd "=" :: b) ∈ flds ns (T.tokss us) := by
          intro ns
          induction ns with
          | nil => intro us i _ hi; simp at hi
          | cons q ns iq =>
            intro us i el hi
            match us, el with
            | u :: us, el =>
              cases i with
              | zero => exact ⟨u.toks, by simp [T.tokss, flds]⟩
              | succ i =>
                obtain ⟨b, mb⟩ := iq us i (by simpa using el) (by simpa using hi)
                exact ⟨b, by simp only [T.tokss, flds, List.mem_cons]; exact .inr mb⟩
        obtain ⟨b, mb⟩ := this ls ks i iw.1 hi
        exact .inr (.inl (mem_sepd_of mb (by rw [← ei]; simp)))
      have rk : ∀ u ∈ ks, u.toks ≠ [] ∧ Rd u := fun u m => ⟨ne u m, ih u m fun y my => p y (by
        simp only [T.toks, Hd.toks, List.mem_cons, List.mem_append]
        have : ∀ (ns : List Str) (us : List T), ns.length = us.length → u ∈ us → ∃ n, (nmW n :: wd "=" :: u.toks) ∈ flds ns (T.tokss us) := by
          intro ns
          induction ns with
          | nil => intro us el mu; cases us; cases mu; simp at el
          | cons q ns iq =>
            intro us el mu
            match us, el, mu with
            | v :: us, el, mu =>
              rcases List.mem_cons.mp mu with rfl | mu
              · exact ⟨q, by simp [T.tokss, flds]⟩
              · obtain ⟨n, mn⟩ := iq us (by simpa using el) mu
                exact ⟨n, by simp only [T.tokss, flds, List.mem_cons]; exact .inr mn⟩
        obtain ⟨n, mn⟩ := this ls ks iw.1 m
        exact .inr (.inl (mem_sepd_of mn (by simp [my]))))⟩
      match ls, ks, iw.1, pn, rk, hb, e with
      | [], [], _, _, _, hb, e =>
        simp only [T.toks, T.tokss, Hd.toks, flds, sepd, List.map_cons, List.map_append, List.map_nil, List.nil_append, List.cons.injEq] at e
        obtain ⟨rfl, rfl⟩ := e
        exact ⟨_, _, _, _, .brace, rfl, s1 .fEnd hb .nil⟩
      | n :: ms, u :: us, el, pn, rk, hb, e =>
        simp only [T.toks, T.tokss, Hd.toks, flds, sepd_cons, List.map_cons, List.map_append, List.map_nil, List.cons_append, List.append_assoc, List.cons.injEq] at e
        obtain ⟨rfl, rfl⟩ := e
        refine ⟨_, _, _, _, .brace, rfl, ?_⟩
        exact s1 (.fName (pn n (by simp))) rfl (s1 .word rfl (sT (rk u (by simp)).1 (rk u (by simp)).2 (W1 := .fields false :: W) (V1 := .flds [n] [u] :: V) rfl
          (s_fields ms us [n] [u] (by simpa using el) (fun m k => pn m (by simp [k])) (fun v m => rk v (by simp [m])) hb)))
      | [], _ :: _, el, _, _, _, _ => simp at el
      | _ :: _, [], el, _, _, _, _ => simp at el
    | field n =>
      simp only [okHd] at iw
      obtain ⟨a, rfl⟩ := List.length_eq_one_iff.mp iw.1
      simp only [T.toks, T.tokss, Hd.toks, List.map_cons, List.map_append, List.map_nil, List.cons.injEq] at e
      obtain ⟨rfl, rfl⟩ := e
      have ra := ih a (by simp) fun y m => p y (by simp [T.toks, T.tokss, Hd.toks, m])
      refine ⟨_, _, _, _, .paren, rfl, ?_⟩
      exact sO (ne a (by simp)) ra fun o => s1 .bDot rfl (s1 (.name (p' (nmW n) (by simp [T.toks, T.tokss, Hd.toks]) rfl)) rfl (s1 .word hb .nil))
    | wth n =>
      simp only [okHd] at iw
      obtain ⟨a, b, rfl⟩ := len_two iw.1
      simp only [T.toks, T.tokss, Hd.toks, List.map_cons, List.map_append, List.map_nil, List.cons.injEq] at e
      obtain ⟨rfl, rfl⟩ := e
      have ra := ih a (by simp) fun y m => p y (by simp [T.toks, T.tokss, Hd.toks, m])
      have rb := ih b (by simp) fun y m => p y (by simp [T.toks, T.tokss, Hd.toks, m])
      refine ⟨_, _, _, _, .paren, rfl, ?_⟩
      exact sO (ne a (by simp)) ra fun o => s1 .bWith rfl (s1 (.name (p' (nmW n) (by simp [T.toks, T.tokss, Hd.toks]) rfl)) rfl (s1 .word rfl (sT (ne b (by simp)) rb rfl (s1 .word hb .nil))))
termination_by t => sizeOf t
decreasing_by
  all_goals simp_wf
  all_goals (have := List.sizeOf_lt_of_mem m; omega)
/-- a whole text is read -/
theorem read_all {t : T} (w : Wt t) (p : Pure t) : Steps t.wds [.term] [] [] [.tm t] := by
  have := sT (r := []) (W := []) (V := []) (toks_ok t w).2 (rd_of t w p) (W1 := []) (V1 := [.tm t]) rfl .nil
  rwa [List.append_nil] at this
end Vt


set_option Elab.async false
set_option linter.all false
set_option maxRecDepth 100000
set_option maxHeartbeats 4000000
namespace Vt
open PySem PySem.Spec PyProof.Rows L2 PySem.W
/-! ### a list or a tuple backwards: xs[::-1] -/
section
variable {prog : Program} {w : World} {A : Around} {E : Value → Shared → Prop} {s : Shared}
theorem pick_rev (xs : Array Value) : ((List.range xs.size).filterMap fun (m : Nat) => xs[(((xs.size : Int) - 1) + (m : Int) * (-1)).toNat]?).toArray = xs.toList.reverse.toArray := by
  have e : (List.range xs.size).filterMap (fun (m : Nat) => xs[(((xs.size : Int) - 1) + (m : Int) * (-1)).toNat]?) = ((List.range xs.size).map fun k => xs.size - 1 - k).filterMap (xs[·]?) := by
    rw [List.filterMap_map]
    have z : ∀ l : List Nat, (∀ m ∈ l, m < xs.size) → l.filterMap (fun (m : Nat) => xs[(((xs.size : Int) - 1) + (m : Int) * (-1)).toNat]?) = l.filterMap ((xs[·]?) ∘ fun k => xs.size - 1 - k) := by
      intro l
      induction l with
      | nil => intro _; rfl
      | cons a r ih =>
        intro hl
        have ha := hl a List.mem_cons_self
        have q : (((xs.size : Int) - 1) + (a : Int) * (-1)).toNat = xs.size - 1 - a := by omega
        rw [List.filterMap_cons, List.filterMap_cons, ih fun m hm => hl m (List.mem_cons_of_mem _ hm), q]
        rfl
    exact z _ fun m hm => List.mem_range.mp hm
  rw [e, krv_range, List.filterMap_reverse, krv_all]
theorem sliceApplied_rev {sl : Addr} {vs : Value} {n : Nat} {Q : Int × Int × Nat → Shared → Prop} (hs : s.heap.IsSliceOf sl .none .none vs) (ps : IsPart vs (some (-1)))
    (h : Q ((n : Int) - 1, -1, n) s) : wpAny (model prog w) A (Builtin.Slice.sliceApplied (.ref sl) (pure (n : Int))) Q E s := by
  obtain ⟨os, hos, hcs, hds⟩ := id hs
  unfold Builtin.Slice.sliceApplied Builtin.Slice.sliceFields
  refine wpAny_bind (wpAny_bind (wpAny_field hos hds (x := .none) rfl (wpAny_bind (wpAny_field hos hds (x := .none) rfl (wpAny_bind (wpAny_field hos hds (x := vs) rfl (wpAny_pure ?_)))))))
  refine wpAny_bind (HT.slicePart_ ps ?_)
  show wpAny _ _ (if ((-1 : Int) == 0) = true then _ else _) _ _ s
  rw [if_neg (by decide)]
  refine wpAny_bind (HT.slicePart_ .none (wpAny_bind (HT.slicePart_ .none (wpAny_bind (wpAny_pure ?_)))))
  show wpAny _ _ (pure ((n : Int) - 1, (-1 : Int), Builtin.Slice.slicePlaces ((n : Int) - 1) (-1) (-1))) _ _ s
  have e : Builtin.Slice.slicePlaces ((n : Int) - 1) (-1) (-1) = n := by
    unfold Builtin.Slice.slicePlaces
    have h1 : ¬ (-1 : Int) > 0 := by decide
    simp only [h1, if_false]
    rw [show ((n : Int) - 1 - -1 - 1) / - -1 = (n : Int) - 1 by rw [show (- -1 : Int) = 1 by decide, Int.ediv_one]; omega]
    split <;> omega
  rw [e]
  exact wpAny_pure h
theorem getItem_tuple_rev {t sl : Addr} {items : Array Value} {vs : Value} {Q : Value → Shared → Prop} (ht : IsTup s.heap t items) (hs : s.heap.IsSliceOf sl .none .none vs) (ps : IsPart vs (some (-1)))
    (h : Q (.ref s.heap.objs.size) { s with heap := s.heap.push { cls := .type "tuple", data := .seq items.toList.reverse.toArray } })
    (hsz : items.size ≤ sizeLine) : wpAny (model prog w) A (getItem (.ref t) (.ref sl)) Q E s := by
  have htake : sizeOk (.seq items.toList.reverse.toArray) := by
    show items.toList.reverse.toArray.size ≤ sizeLine
    rw [List.size_toArray, List.length_reverse, Array.length_toList]
    omega
  obtain ⟨os, hos, hcs, hds⟩ := id hs
  have hTs : s.TypeIs (.ref sl) "slice" := ⟨os, hos, hcs⟩
  unfold getItem
  try with_reducible refine wpAny_holding ?_
  first | refine wpAny_bind (wpAny_pure ?_) | skip
  refine wpAny_bind (wpAny_sequenceKey ht.typeIs (by decide) ?_)
  refine wpAny_bind (wpAny_callSpecial?_slot (name := Str.ofString "__getitem__") ht.typeIs PyProof.Rows.slot_tuple_getitem
    (wpAny_call_entry PyProof.Rows.slot_tuple_getitem ht.typeIs entry_tuple_getitem ?_ (args_tuple_getitem _ _)))
  show wpAny _ _ (Builtin.Tuple.tupleItemsOf (.ref t) >>= _) _ _ s
  refine wpAny_bind (tupleItemsOf_ ht ?_)
  refine wpAny_bind (wpAny_typeOf hTs ?_)
  rw [if_pos (by decide)]
  refine wpAny_bind (sliceApplied_rev (n := items.size) hs ps ?_)
  have hno : ¬ ((((items.size : Int) - 1) == 0 && (-1 : Int) == 1 && items.size == items.size) = true) := by
    intro q
    rw [Bool.and_eq_true, Bool.and_eq_true] at q
    exact absurd q.1.2 (by decide)
  show wpAny _ _ (if (((items.size : Int) - 1) == 0 && (-1 : Int) == 1 && items.size == items.size) = true then _ else _) _ _ s
  rw [if_neg hno, pick_rev]
  first
    | exact wpAny_bind (m := Builtin.Tuple.tupleExact _) (wpAny_newObj_type (wpAny_pure ⟨_, rfl, wpAny_pure h⟩) htake)
    | exact wpAny_bind (m := Builtin.Tuple.tupleExact _) (wpAny_newObj_type (wpAny_bind (wpAny_pure (wpAny_pure ⟨_, rfl, wpAny_pure h⟩))) htake)
    | exact wpAny_bind (wpAny_bind (m := Builtin.Tuple.tupleExact _) (wpAny_newObj_type (wpAny_pure (wpAny_pure ⟨_, rfl, wpAny_pure h⟩)) htake))
    | exact wpAny_bind (wpAny_bind (m := Builtin.Tuple.tupleExact _) (wpAny_newObj_type (wpAny_pure ⟨_, rfl, wpAny_pure h⟩) htake))
end
def rRev (K : PySem.W.Frag) : V → Hp → VK → Prop := fun x H Q => ∃ a xs, x = .ref a ∧ ((SqL K H a xs ∧ ∀ p, H p = none → Q (.ref p) (upd H p (.lst xs.reverse))) ∨ (SqT K H a xs ∧ ∀ p, H p = none → Q (.ref p) (upd H p (.tup xs.reverse))))
def tRev (K : PySem.W.Frag) (te : TE) : TE := fun σ H Q => te σ H fun x H1 => rRev K x H1 Q
theorem pe_rev {X : Cx} {e : Expr} {te : TE} {k : Nat} {p1 p2 p3 pos : Pos} (he : PE X e te) : PE X (.Subscript e (.Slice none none (some (.UnaryOp .USub (.Constant (.int 1) k p1) p2)) p3) pos) (tRev X.K te) := by
  refine ⟨fun pins s σ H Q I h => ?_⟩
  refine Subscript_ (thn (he.run pins s σ H _ I h) fun v s1 ⟨x, H1, I1, r1, q1⟩ => ?_)
  obtain ⟨a, xs, ex, hxs⟩ := q1
  subst ex
  cases r1
  have hst : PO X (some (.UnaryOp .USub (.Constant (.int 1) k p1) p2)) (tPart (tUn (rU fun i => .int (-i)) (tC (.int 1)))) := po_some (pe_un un_neg pe_int)
  refine wpAny_Slice (thn (po_none.run pins s1 σ H1 (fun o H2 => o = none ∧ H2 = H1) I1 ⟨rfl, rfl⟩) fun vl s2 ⟨l, H2, I2, pl, el, e2⟩ => ?_)
  subst el e2
  refine thn (po_none.run pins s2 σ H2 (fun o H3 => o = none ∧ H3 = H2) I2 ⟨rfl, rfl⟩) fun vu s3 ⟨u, H3, I3, pu, eu, e3⟩ => ?_
  subst eu e3
  refine thn (hst.run pins s3 σ H3 (fun o H4 => o = some (-1) ∧ H4 = H3) I3 ⟨1, rfl, -1, rfl, rfl, rfl⟩) fun vs s4 ⟨o, H4, I4, ps, eo, e4⟩ => ?_
  subst eo e4
  have I5 : Inv X pins σ H4 { s4 with heap := s4.heap.push { cls := .type "slice", data := .fields #[vl, vu, vs] } } := I4.kept (t' := s4.toks) fun b ob q => Heap.get?_push_of_some _ q
  cases pl
  cases pu
  rcases hxs with ⟨hx, q⟩ | ⟨hx, q⟩
  · obtain ⟨its, r, ht, hz⟩ := I5.list hx
    have hlen := r.length
    show wpAny (model X.prog X.w) X.A (subscriptTail e (.Slice none none (some (.UnaryOp .USub (.Constant (.int 1) k p1) p2)) p3) (.ref a) (.ref s4.heap.objs.size)) (EP X pins σ Q) X.xe { s4 with heap := s4.heap.push { cls := .type "slice", data := .fields #[.none, .none, vs] } }
    refine tail_any (ops := [.ref a, .ref s4.heap.objs.size]) ht.isList.typeIs (PySem.slot_list_getitem.lookup) ?_ (by with_unfolding_all rfl)
    refine wpAny_getItem_list_slice ht.isList (Heap.IsSliceOf.new _ .none .none vs) .none .none ps (by decide) ?_ (by rw [List.size_toArray]; omega)
    rw [PySem.W.krv_pick]
    refine ⟨.ref _, _, I5.laid (t' := s4.toks) (o := .lst xs.reverse) (fun b ob q => Heap.get?_push_of_some _ q) (Nat.le_refl _) ?_, rfl, q _ (I5.hok.fresh (Nat.le_refl _))⟩
    exact ⟨by rw [List.length_reverse]; exact hz, _, 0, r.reverse, Heap.get?_push_size _ rfl⟩
  · obtain ⟨its, r, ht, hz⟩ := I5.tuple hx
    have hlen : its.toArray.size = xs.length := by rw [List.size_toArray]; exact r.length.symm
    show wpAny (model X.prog X.w) X.A (subscriptTail e (.Slice none none (some (.UnaryOp .USub (.Constant (.int 1) k p1) p2)) p3) (.ref a) (.ref s4.heap.objs.size)) (EP X pins σ Q) X.xe { s4 with heap := s4.heap.push { cls := .type "slice", data := .fields #[.none, .none, vs] } }
    refine tail_any (ops := [.ref a, .ref s4.heap.objs.size]) ht.typeIs PyProof.Rows.slot_tuple_getitem.lookup ?_ (by with_unfolding_all rfl)
    refine getItem_tuple_rev ht (Heap.IsSliceOf.new _ .none .none vs) ps ?_ (by rw [hlen]; exact hz)
    refine ⟨.ref _, _, I5.laid (t' := s4.toks) (o := .tup xs.reverse) (fun b ob q => Heap.get?_push_of_some _ q) (Nat.le_refl _) ?_, rfl, q _ (I5.hok.fresh (Nat.le_refl _))⟩
    exact ⟨by rw [List.length_reverse]; exact hz, _, r.reverse, IsTup.new _ _⟩
end Vt


set_option Elab.async false
set_option linter.all false
set_option maxRecDepth 100000
set_option maxHeartbeats 4000000

namespace Vt
open PySem PySem.Spec PyProof.Rows L2 TL
/-! ### integers as they are written -/
theorem dig_is : ∀ c : Nat, 48 ≤ c → c ≤ 57 → Unicode.isDigit c = true := by
  have z : ∀ k : Fin 10, Unicode.isDigit (48 + k.val) = true := by decide +kernel
  intro c h1 h2
  have := z ⟨c - 48, by omega⟩
  rwa [show 48 + (c - 48) = c by omega] at this
theorem low_no : ∀ c : Nat, 97 ≤ c → c ≤ 122 → Unicode.isDigit c = false := by
  have z : ∀ k : Fin 26, Unicode.isDigit (97 + k.val) = false := by decide +kernel
  intro c h1 h2
  have := z ⟨c - 97, by omega⟩
  rwa [show 97 + (c - 97) = c by omega] at this
theorem numL_head : ∀ n : Nat, 0 < n → ∃ c r, numL n = c :: r ∧ 49 ≤ c ∧ c ≤ 57 := by
  intro n
  induction n using Nat.strongRecOn with
  | _ n ih =>
    intro h
    by_cases q : n < 10
    · exact ⟨48 + n, [], numL_lt q, by omega, by omega⟩
    · obtain ⟨c, r, e, a, b⟩ := ih (n / 10) (by omega) (by omega)
      exact ⟨c, r ++ [48 + n % 10], by rw [numL_step (by omega), e]; rfl, a, b⟩
theorem rp_other {x : Str} {c : Nat} {r : List Nat} (e : tl x = c :: r) (h : c ≠ 45) : Txt.removeprefix x "-" = x := by
  rw [PySem.StrLaws.removeprefix_eq, PySem.StrLaws.subAt_eq]
  have e2 : x.cps.toList = c :: r := e
  rw [e2]
  have z : ((List.drop 0 (c :: r)).take (Str.length ("-" : Str)) == (("-" : Str).cps.toList)) = false := by
    show (([c] : List Nat) == [45]) = false
    simp [h]
  rw [z, Bool.and_false, if_neg Bool.false_ne_true]
theorem rp_minus {x : Str} {r : List Nat} (e : tl x = 45 :: r) : tl (Txt.removeprefix x "-") = r := by
  rw [PySem.StrLaws.removeprefix_eq, PySem.StrLaws.subAt_eq]
  have e2 : x.cps.toList = 45 :: r := e
  have el : x.length = r.length + 1 := by rw [len_tl, e]; rfl
  rw [e2]
  have z : ((List.drop 0 (45 :: r)).take (Str.length ("-" : Str)) == (("-" : Str).cps.toList)) = true := by
    show (([45] : List Nat) == [45]) = true
    rfl
  rw [z, Bool.and_true, if_pos (decide_eq_true (by rw [el]; show 0 + 1 ≤ _; omega))]
  show List.take (x.length - 1) (List.drop 1 (45 :: r)) = r
  rw [el]
  simp
theorem numFlag_num (k : Int) : numFlag (intS k) = true := by
  unfold numFlag
  exact @decide_eq_true _ (Classical.propDecidable _) ⟨k, rfl⟩
theorem numL_dig (n : Nat) : ∀ c ∈ numL n, 48 ≤ c ∧ c ≤ 57 := numL_digits n
theorem num_first (k : Int) : ∃ c r, tl (intS k) = c :: r ∧ (c = 45 ∨ (48 ≤ c ∧ c ≤ 57)) := by
  obtain ⟨n, ⟨_, e⟩ | ⟨_, _, e⟩⟩ := intS_cases k
  · match hl : numL n with
    | [] => exact absurd hl (numL_ne n)
    | c :: r => exact ⟨c, r, by rw [e, hl], .inr (numL_dig n c (by rw [hl]; simp))⟩
  · exact ⟨45, _, e, .inl rfl⟩
/-- a text that begins with no digit and no minus sign -/
def notNum (x : Str) : Prop := ∃ c r, tl x = c :: r ∧ c ≠ 45 ∧ Unicode.isDigit c = false
theorem numFlag_not {x : Str} (h : notNum x) : numFlag x = false := by
  unfold numFlag
  refine @decide_eq_false _ (Classical.propDecidable _) ?_
  rintro ⟨k, rfl⟩
  obtain ⟨c, r, e, h1, h2⟩ := h
  obtain ⟨c', r', e', h3⟩ := num_first k
  rw [e] at e'
  injection e' with e1 _
  subst e1
  rcases h3 with h3 | h3
  · exact h1 h3
  · rw [dig_is c h3.1 h3.2] at h2
    cases h2
theorem notNum_name {x : Str} (h : isName x) : notNum x := by
  match e : tl x with
  | [] => exact absurd (show x.cps.toList = [] from e) (okWord_name h).1
  | c :: r =>
    have := h.2.2 c (by show c ∈ tl x; rw [e]; simp)
    exact ⟨c, r, e, by omega, low_no c this.1 this.2⟩
def spWrit : Sp := fun vs H Q _ => ∃ x : Str, vs = [.str x] ∧ x.length ≤ 1000 ∧ (isNum x ∨ notNum x) ∧ Q (.bl (numFlag x)) H
def spIntOf : Sp := fun vs H Q _ => ∃ k : Int, vs = [.str (intS k)] ∧ -(10 ^ 30) ≤ k ∧ k ≤ 10 ^ 30 ∧ Q (.int k) H
def spCan : Sp := fun vs H Q _ => ∃ x : Str, vs = [.str x] ∧ PureName x ∧ ∀ H', Same H H' → Q (.bl true) H'
/-- wanted is another list -/
def spWant (K : PySem.W.Frag) : Sp := fun vs H Q _ => ∃ (l b : Addr) (xs ys : List V), vs = [.ref l, .ref b] ∧ H l = some (.lst xs) ∧ SqT K H b ys ∧ xs.length + ys.length ≤ sizeLine ∧
  ∀ H', Keep l H H' → H' l = some (.lst (xs ++ ys.reverse)) → Q .non H'
theorem intS_len {k : Int} (h : -(10 ^ 30) ≤ k ∧ k ≤ 10 ^ 30) : (intS k).length ≤ 32 := by
  obtain ⟨n, ⟨h1, e⟩ | ⟨h1, _, e⟩⟩ := intS_cases k
  · rw [len_tl, e]
    have := numL_len (n := n) (k := 31) (by omega) (by omega)
    omega
  · rw [len_tl, e, List.length_cons]
    have := numL_len (n := n) (k := 31) (by omega) (by omega)
    omega
theorem intText_intS {k : Int} (h : -(10 ^ 30) ≤ k ∧ k ≤ 10 ^ 30) : PySem.intText? (intS k) = some k := by
  have hl := intS_len h
  obtain ⟨n, ⟨h1, e⟩ | ⟨h1, h2, e⟩⟩ := intS_cases k
  · have := PySem.intText_digits (x := intS k) (by rw [show (intS k).cps.toList = numL n from e]; exact numL_digits n) (by rw [show (intS k).cps.toList = numL n from e]; exact numL_ne n) (by omega)
    rw [this, show (intS k).cps.toList = numL n from e, numL_val, h1]
  · have := PySem.intText_neg (x := intS k) (cs := numL n) e (numL_digits n) (numL_ne n) (by omega)
    rw [this, numL_val, h1]
theorem wi_num (k : Int) : ∃ c r, tl (Txt.removeprefix (intS k) "-") = c :: r ∧ Txt.isascii (Txt.removeprefix (intS k) "-") = true ∧ Txt.isdigit (Txt.removeprefix (intS k) "-") = true ∧ (c ≠ 48 ∨ intS k = "0") := by
  have key : ∀ (d : Str) (n : Nat), tl d = numL n → Txt.isascii d = true ∧ Txt.isdigit d = true := by
    intro d n e
    have e' : d.cps.toList = numL n := e
    refine ⟨?_, ?_⟩
    · unfold Txt.isascii
      rw [← Array.all_toList, List.all_eq_true, e']
      intro c hc
      have := numL_dig n c hc
      exact decide_eq_true (by omega)
    · unfold Txt.isdigit
      rw [Bool.and_eq_true]
      refine ⟨decide_eq_true ?_, ?_⟩
      · rw [gt_iff_lt, len_tl, e]
        exact List.length_pos_iff.mpr (numL_ne n)
      · rw [← Array.all_toList, List.all_eq_true, e']
        intro c hc
        have := numL_dig n c hc
        exact dig_is c this.1 this.2
  obtain ⟨n, ⟨_, e⟩ | ⟨_, hn, e⟩⟩ := intS_cases k
  · obtain ⟨c, r, ec⟩ : ∃ c r, numL n = c :: r := by
      match hl : numL n with
      | [] => exact absurd hl (numL_ne n)
      | c :: r => exact ⟨c, r, rfl⟩
    have hc := numL_dig n c (by rw [ec]; simp)
    have ed := rp_other (x := intS k) (c := c) (r := r) (by rw [e, ec]) (by omega)
    rw [ed]
    obtain ⟨a1, a2⟩ := key (intS k) n e
    refine ⟨c, r, by rw [e, ec], a1, a2, ?_⟩
    by_cases z : n = 0
    · refine .inr (ext_tl ?_)
      rw [e, z, numL_lt (by omega)]
      rfl
    · obtain ⟨c', r', e', h1, _⟩ := numL_head n (by omega)
      rw [ec] at e'
      injection e' with e1 _
      exact .inl (by omega)
  · have ed := rp_minus e
    obtain ⟨a1, a2⟩ := key _ n ed
    obtain ⟨c', r', e', h1, _⟩ := numL_head n hn
    exact ⟨c', r', by rw [ed, e'], a1, a2, .inl (by omega)⟩
theorem inV_strs (n : Str) : ∀ ys : List Str, inV (V.str n) (ys.map V.str) = decide (n ∈ ys)
  | [] => rfl
  | y :: r => by
    have ih := inV_strs n r
    unfold inV at ih ⊢
    rw [List.map_cons, List.any_cons, ih]
    have e : eqV (V.str y) (V.str n) = decide (y = n) := by
      by_cases h : y = n
      · rw [h]
        simp [eqV]
      · simp [eqV, h]
    rw [e]
    by_cases h : y = n
    · simp [h]
    · by_cases k : n ∈ r
      · simp [k]
      · have h' : ¬ n = y := fun z => h z.symm
        simp [h, k, h']
theorem flat_strs : ∀ ys : List Str, (ys.map V.str).all flatV = true
  | [] => rfl
  | y :: r => by
    rw [List.map_cons, List.all_cons, flat_strs r]
    rfl
/-- constants of termtexts -/
structure Cst4 (K : PySem.W.Frag) (mg : Str → Option Value) : Prop where
  many : ∃ t, mg "MANY_DIGITS" = some (.int 40 t)
  noN : ∃ a, mg "NO_NAMES" = some (.ref a) ∧ ∀ H, SqT K H a (noNames.map V.str)
abbrev s_is_written_integer : Stmt := topS 51
abbrev N_is_written_integer : List Str := ["word", "digits"]
theorem sc_is_written_integer : FnScope N_is_written_integer ["word"] (defScope s_is_written_integer) := ⟨rfl, rfl, rfl, by decide +kernel, rfl, by decide +kernel, by decide +kernel⟩
abbrev s_integer_of : Stmt := topS 52
abbrev N_integer_of : List Str := ["word"]
theorem sc_integer_of : FnScope N_integer_of ["word"] (defScope s_integer_of) := ⟨rfl, rfl, rfl, by decide +kernel, rfl, by decide +kernel, by decide +kernel⟩
abbrev s_can_be_name : Stmt := topS 53
abbrev N_can_be_name : List Str := ["word"]
theorem sc_can_be_name : FnScope N_can_be_name ["word"] (defScope s_can_be_name) := ⟨rfl, rfl, rfl, by decide +kernel, rfl, by decide +kernel, by decide +kernel⟩
abbrev s_want : Stmt := topS 54
abbrev N_want : List Str := ["wanted", "behind"]
theorem sc_want : FnScope N_want ["wanted", "behind"] (defScope s_want) := ⟨rfl, rfl, rfl, by decide +kernel, rfl, by decide +kernel, by decide +kernel⟩
section
variable {P : Program} {w : World} {K : PySem.W.Frag} {mg : Str → Option Value} {base : Heap}
theorem ok_is_written_integer (S : Stands K mg "is_written_integer" s_is_written_integer ["word"]) (Z : Blt mg) : DefOk P w K mg base CX0 1 "is_written_integer" ["word"] spWrit := by
  obtain ⟨f, fd, F, hm, hb⟩ := S
  refine ⟨f, fd, ?_, hm, F.kp, hb⟩
  have nd := sc_is_written_integer.nd
  refine F.ok sc_is_written_integer (fun vs H Q E h => ?_) (fun cdv A outer s0 H vs Q E hr h => ?_)
  · obtain ⟨x, rfl, _⟩ := h
    rfl
  obtain ⟨x, rfl, hl, hx, q⟩ := h
  refine ⟨_, (pss_cons (ps_set (i := 1) nd rfl (Or.inl rfl) (pe_bm PySem.F.plainAttrs_str PySem.F.slot_str_removeprefix PySem.F.type_str_removeprefix mt_removeprefix (pv 0) (pa_cons pe_str pa_nil)))
      (pss_cons (ps_if (PW.pt (pw_or (pt_not (pt_val (pe_bm0 PySem.F.plainAttrs_str PySem.F.slot_str_isascii PySem.F.type_str_isascii mt_isascii (pv 1)))) (pw_or1 (pt_not (pt_val (pe_bm0 PySem.F.plainAttrs_str PySem.F.slot_str_isdigit PySem.F.type_str_isdigit mt_isdigit (pv 1))))))) (pss_one (ps_ret pe_bl)) pss_nil)
      (pss_one (ps_ret (pe_or (pe_cmpR op_ne (pe_ix ix_str (pv 1) pe_int (fun _ _ => rfl)) pe_str (nomark _)) (pe_one (pe_cmpR op_eq (pv 0) pe_str (nomark _)))))))), ?_⟩
  walk_at "rd"
  refine ⟨sz (by omega), ?_⟩
  rcases hx with ⟨k, rfl⟩ | hx
  · obtain ⟨c, r, e, a1, a2, a3⟩ := wi_num k
    rw [numFlag_num] at q
    have hdl : (Txt.removeprefix (intS k) "-").length ≤ 1000 := by
      rcases num_first k with ⟨c', r', e', h3⟩
      rw [len_tl] at hl ⊢
      by_cases z : c' = 45
      · rw [z] at e'
        rw [rp_minus e']
        rw [e', List.length_cons] at hl
        omega
      · rw [rp_other e' z]
        exact hl
    generalize Txt.removeprefix (intS k) "-" = d at *
    walk_at "rd"
    rw [a1]
    refine ifF rfl ?_
    walk_at "rd"
    rw [a2]
    refine ifF rfl ?_
    walk_at "rd"
    refine ⟨d, 0, c, rfl, rfl, sz hdl, ?_, ?_⟩
    · rw [show d.cps.toList = c :: r from e]
      exact atI_nat (j := 0) rfl
    walk_at "rd"
    by_cases hz : (V.str { cps := #[c] } = V.str (Str.ofString "0"))
    · refine ifF (by rw [decide_eq_true hz]; rfl) ?_
      have c48 : c = 48 := by
        have h1 := V.str.inj hz
        have h2 := congrArg (fun y : Str => y.cps.toList) h1
        have h3 : [c] = [48] := h2
        injection h3
      have hk : intS k = "0" := a3.resolve_left fun h => h c48
      walk_at "rd"
      rw [hk]
      exact q
    · refine ifT (by rw [decide_eq_false hz]; rfl) ?_
      exact q
  · have hx' := hx
    obtain ⟨c, r, e, h1, h2⟩ := hx
    rw [numFlag_not hx'] at q
    rw [rp_other e h1]
    have hd : Txt.isdigit x = false := by
      unfold Txt.isdigit
      have : x.cps.all Unicode.isDigit = false := by
        rw [← Array.all_toList, show x.cps.toList = c :: r from e]
        simp [h2]
      rw [this, Bool.and_false]
    walk_at "rd"
    cases hasc : Txt.isascii x with
    | false =>
      refine ifT rfl ?_
      walk_at "rd"
      exact q
    | true =>
      refine ifF rfl ?_
      walk_at "rd"
      rw [hd]
      refine ifT rfl ?_
      walk_at "rd"
      exact q
theorem ok_integer_of (S : Stands K mg "integer_of" s_integer_of ["word"]) (Z : Blt mg) (C : Cst4 K mg) (C0 : Cst mg) : DefOk P w K mg base CX0 1 "integer_of" ["word"] spIntOf := by
  have z_len := Z.len
  have z_int := Z.int
  obtain ⟨t_many, c_MANY_DIGITS⟩ := C.many
  have c_MANY_DIGITS_r := @rel_int 40 t_many
  obtain ⟨t_great, c_GREATEST⟩ := C0.great
  have c_GREATEST_r := @rel_int (10 ^ 30) t_great
  obtain ⟨f, fd, F, hm, hb⟩ := S
  refine ⟨f, fd, ?_, hm, F.kp, hb⟩
  have nd := sc_integer_of.nd
  refine F.ok sc_integer_of (fun vs H Q E h => ?_) (fun cdv A outer s0 H vs Q E hr h => ?_)
  · obtain ⟨k, rfl, _⟩ := h
    rfl
  obtain ⟨k, rfl, h1, h2, q⟩ := h
  have hl := intS_len ⟨h1, h2⟩
  refine ⟨_, (pss_cons (ps_if (pt_cmpR op_gt (pe_callB call_len_str (by rfl) z_len (by decide +kernel) (pa_cons (pv 0) pa_nil)) (pe_glob rfl c_MANY_DIGITS c_MANY_DIGITS_r) (nomark _)) (pss_one (ps_ret (pe_ifExp (pt_val (pe_bm PySem.F.plainAttrs_str PySem.F.slot_str_startswith PySem.F.type_str_startswith mt_startswith (pv 0) (pa_cons pe_str pa_nil))) (pe_op op_mul (pe_un un_neg pe_int) (pe_glob rfl c_GREATEST c_GREATEST_r)) (pe_op op_mul pe_int (pe_glob rfl c_GREATEST c_GREATEST_r))))) pss_nil)
      (pss_one (ps_ret (pe_callTy call_int_str (by rfl) z_int (by decide +kernel) (pa_cons (pv 0) pa_nil))))), ?_⟩
  walk_at "rd"
  refine ⟨sz (by omega), ?_⟩
  walk_at "rd"
  refine ifF (decide_eq_false (by omega)) ?_
  walk_at "rd"
  exact ⟨_, k, rfl, intText_intS ⟨h1, h2⟩, by omega, q⟩
theorem ok_can_be_name (S : Stands K mg "can_be_name" s_can_be_name ["word"]) (Z : Blt mg) (C : Cst4 K mg) (H_is_name : DefOk P w K mg base CX0 1 "is_name" ["value"] spIsName) : DefOk P w K mg base CX0 2 "can_be_name" ["word"] spCan := by
  obtain ⟨NA, c_NO_NAMES, hNA⟩ := C.noN
  have c_NO_NAMES_r : RelV (.ref NA) (Value.ref NA) := rfl
  obtain ⟨f, fd, F, hm, hb⟩ := S
  obtain ⟨f_is_name, fd_is_name, G_is_name, m_is_name, k_is_name, b_is_name⟩ := H_is_name
  refine ⟨f, fd, ?_, hm, F.kp, hb⟩
  have nd := sc_can_be_name.nd
  refine F.ok sc_can_be_name (fun vs H Q E h => ?_) (fun cdv A outer s0 H vs Q E hr h => ?_)
  · obtain ⟨x, rfl, _⟩ := h
    rfl
  obtain ⟨x, rfl, hx, q⟩ := h
  refine ⟨_, (pss_one (ps_ret (pe_and (pe_call G_is_name (hr.mono (by decide)) rfl m_is_name k_is_name b_is_name .nil pass0 (pa_cons (pv 0) pa_nil)) (pe_one (pe_cmpR op_notIn_seq (pv 0) (pe_glob rfl c_NO_NAMES c_NO_NAMES_r) (by rfl)))))), ?_⟩
  walk_at "rd"
  refine ⟨hx.nm, fun H1 S1 => ⟨_, rfl, ifT rfl ?_⟩⟩
  walk_at "rd"
  refine ⟨NA, _, rfl, .inr (hNA _), rfl, by decide +kernel, ?_⟩
  rw [if_pos rfl, inV_strs, decide_eq_false hx.no]
  exact q H1 S1
theorem ok_want (S : Stands K mg "want" s_want ["wanted", "behind"]) : DefOk P w K mg base CX0 1 "want" ["wanted", "behind"] (spWant K) := by
  obtain ⟨f, fd, F, hm, hb⟩ := S
  refine ⟨f, fd, ?_, hm, F.kp, hb⟩
  have nd := sc_want.nd
  refine F.ok sc_want (fun vs H Q E h => ?_) (fun cdv A outer s0 H vs Q E hr h => ?_)
  · obtain ⟨l, b, xs, ys, rfl, _⟩ := h
    rfl
  obtain ⟨l, b, xs, ys, rfl, hx, hy, hz, q⟩ := h
  refine ⟨_, (pss_one (ps_expr (pe_bm PySem.F.plainAttrs_list PySem.F.slot_list_extend PySem.F.type_list_extend mt_extA (pv 0) (pa_cons (pe_rev (pv 1)) pa_nil)))), ?_⟩
  walk_at "rd"
  refine ⟨.inl ⟨rfl, _, SqL.of hx⟩, ?_⟩
  walk_at "rd"
  refine ⟨b, ys, rfl, .inr ⟨hy, fun p hp => ?_⟩⟩
  walk_at "rd"
  have n1 : l ≠ p := fun z => by rw [z, hp] at hx; cases hx
  refine ⟨l, p, xs, ys.reverse, rfl, rfl, (upd_ne n1).trans hx, .inr (SqT.of upd_same), by rw [List.length_reverse]; exact hz, ?_⟩
  exact q _ (fun c o n e => by rw [upd_ne n, upd_ne (fun z => by rw [z, hp] at e; cases e)]; exact e) upd_same
end
end Vt


set_option Elab.async false
set_option linter.all false
set_option maxRecDepth 100000
set_option maxHeartbeats 4000000

namespace Vt
open PySem PySem.Spec PyProof.Rows L2 TL
/-! ### the state of the reader in the heap -/
/-- the heap without some addresses -/
def offs (as : List Addr) (H : Hp) : Hp := fun b => if b ∈ as then none else H b
theorem offs_in {as : List Addr} {H : Hp} {b : Addr} (h : b ∈ as) : offs as H b = none := if_pos h
theorem offs_out {as : List Addr} {H : Hp} {b : Addr} (h : b ∉ as) : offs as H b = H b := if_neg h
theorem offs_same {as : List Addr} {H : Hp} : Same (offs as H) H := fun b o e => by
  by_cases h : b ∈ as
  · rw [offs_in h] at e
    cases e
  · rwa [offs_out h] at e
/-- all is kept but at some addresses -/
def KeepA (as : List Addr) (H H' : Hp) : Prop := ∀ b o, b ∉ as → H b = some o → H' b = some o
theorem KeepA.offs {as : List Addr} {H H' : Hp} (k : KeepA as H H') : Same (offs as H) (offs as H') := fun b o e => by
  by_cases h : b ∈ as
  · rw [offs_in h] at e
    cases e
  · rw [offs_out h] at e ⊢
    exact k b o h e
theorem _root_.L2.Same.keepA {as : List Addr} {H H' : Hp} (h : Same H H') : KeepA as H H' := fun b o _ e => h b o e
theorem KeepA.trans {as : List Addr} {H H1 H2 : Hp} (a : KeepA as H H1) (b : KeepA as H1 H2) : KeepA as H H2 := fun c o n e => b c o n (a c o n e)
theorem KeepA.wr {as : List Addr} {H : Hp} {a : Addr} {o : HO} (h : a ∈ as) : KeepA as H (L2.upd H a o) := fun b u n e => by
  rw [upd_ne (fun z => n (by rw [z]; exact h))]
  exact e
theorem Keep.keepA {as : List Addr} {H H' : Hp} {a : Addr} (k : Keep a H H') (h : a ∈ as) : KeepA as H H' := fun b o n e => k b o (fun z => n (by rw [z]; exact h)) e
theorem KeepA.mono {as bs : List Addr} {H H' : Hp} (k : KeepA as H H') (s : ∀ a ∈ as, a ∈ bs) : KeepA bs H H' := fun b o n e => k b o (fun m => n (s b m)) e
/-- what is wanted, as a tuple -/
def Wnt (K : PySem.W.Frag) (G : Hp) (v : V) (c : Wn) : Prop := ∃ a, v = .ref a ∧ SqT K G a [.str c.what, .str c.which]
theorem Wnt.same {K : PySem.W.Frag} {G G' : Hp} {v : V} {c : Wn} (s : Same G G') (h : Wnt K G v c) : Wnt K G' v c := by
  obtain ⟨a, e, h⟩ := h
  exact ⟨a, e, Same.tupS s h⟩
/-- what has been read: values, and the lists among them that still grow, with the first list of addresses left out of G -/
inductive Vls (K : PySem.W.Frag) (G H : Hp) : List V → List Vl → List Addr → Prop
  | nil : Vls K G H [] [] []
  | tm {v t r xs os} : Tm K G v t → Vls K G H r xs os → Vls K G H (v :: r) (.tm t :: xs) os
  | nm {n r xs os} : Vls K G H r xs os → Vls K G H (.str n :: r) (.nm n :: xs) os
  | num {k r xs os} : Vls K G H r xs os → Vls K G H (.int k :: r) (.num k :: xs) os
  | items {l us ts r xs os} : H l = some (.lst us) → Al (Tm K G) us ts → l ∉ os → Vls K G H r xs os → Vls K G H (.ref l :: r) (.items ts :: xs) (l :: os)
  | flds {l : Addr} {bs : List Addr} {us : List V} {ls : List Str} {ts : List T} {r xs os} : H l = some (.lst (bs.map V.ref)) → bs.length = ts.length → ls.length = ts.length → us.length = ts.length →
      (∀ (i : Nat) (b : Addr) (n : Str) (u : V), bs[i]? = some b → ls[i]? = some n → us[i]? = some u → SqT K G b [.str n, u]) → (∀ (i : Nat) (u : V) (t : T), us[i]? = some u → ts[i]? = some t → Tm K G u t) → l ∉ os → Vls K G H r xs os → Vls K G H (.ref l :: r) (.flds ls ts :: xs) (l :: os)
theorem Vls.mono {K : PySem.W.Frag} {G G' H H' : Hp} {vs : List V} {xs : List Vl} {os : List Addr} (h : Vls K G H vs xs os) (s : Same G G') (e : ∀ o ∈ os, H' o = H o) : Vls K G' H' vs xs os := by
  induction h with
  | nil => exact .nil
  | tm a _ ih => exact .tm (a.same s) (ih e)
  | nm _ ih => exact .nm (ih e)
  | num _ ih => exact .num (ih e)
  | items a b c _ ih => exact .items (by rw [e _ List.mem_cons_self]; exact a) (b.mono fun x y _ z => z.same s) c (ih fun o m => e o (List.mem_cons_of_mem _ m))
  | flds a b c d f g n _ ih => exact .flds (by rw [e _ List.mem_cons_self]; exact a) b c d (fun i x y z p q r => Same.tupS s (f i x y z p q r)) (fun i u t p q => (g i u t p q).same s) n (ih fun o m => e o (List.mem_cons_of_mem _ m))
theorem Vls.len {K : PySem.W.Frag} {G H : Hp} {vs : List V} {xs : List Vl} {os : List Addr} (h : Vls K G H vs xs os) : vs.length = xs.length := by
  induction h with
  | nil => rfl
  | _ => simp [*]
/-- the reader: wanted stands at W, values at U (both with the last one first in the lists here) -/
structure Rs (K : PySem.W.Frag) (W U : Addr) (H : Hp) (ws : List Wn) (xs : List Vl) (os : List Addr) : Prop where
  ne : W ≠ U
  nw : W ∉ os
  nu : U ∉ os
  wt : ∃ cs : List V, H W = some (.lst cs.reverse) ∧ Al (Wnt K (offs (W :: U :: os) H)) cs ws
  vl : ∃ vs : List V, H U = some (.lst vs.reverse) ∧ Vls K (offs (W :: U :: os) H) H vs xs os
/-- how large it may get -/
def few (what : Str) (ws : List Wn) (xs : List Vl) : Prop := ws.length + xs.length ≤ 1000000 ∨ ((what = "term" ∨ what = "name") ∧ ws.length + xs.length ≤ 1000100)
theorem few.le {what : Str} {ws : List Wn} {xs : List Vl} (h : few what ws xs) : ws.length + xs.length ≤ 1000100 := by
  rcases h with h | ⟨_, h⟩ <;> omega
theorem Vls.lst {K : PySem.W.Frag} {G H : Hp} {vs : List V} {xs : List Vl} {os : List Addr} (h : Vls K G H vs xs os) : ∀ o ∈ os, ∃ y, H o = some y := by
  induction h with
  | nil => intro o m; cases m
  | tm _ _ ih => exact ih
  | nm _ ih => exact ih
  | num _ ih => exact ih
  | items a _ _ _ ih => intro o m; rcases List.mem_cons.mp m with rfl | m; exact ⟨_, a⟩; exact ih o m
  | flds a _ _ _ _ _ _ _ ih => intro o m; rcases List.mem_cons.mp m with rfl | m; exact ⟨_, a⟩; exact ih o m
theorem few.ge {what : Str} {ws : List Wn} {xs : List Vl} (h : few what ws xs) (n : ¬ (what = "term" ∨ what = "name")) : ws.length + xs.length ≤ 1000000 := by
  rcases h with h | ⟨e, _⟩
  · exact h
  · exact absurd e n
/-- one step: what else stands is kept -/
def Mv (K : PySem.W.Frag) (W U : Addr) (os : List Addr) (H H' : Hp) (ws' : List Wn) (xs' : List Vl) : Prop := ∃ os', Rs K W U H' ws' xs' os' ∧ KeepA (W :: U :: os) H H' ∧ ∀ o ∈ os', o ∈ os ∨ H o = none
/-- the state, where only the two lists (and what is new) have changed -/
theorem Rs.read {K : PySem.W.Frag} {W U : Addr} {H H' : Hp} {ws : List Wn} {xs : List Vl} {os : List Addr} (R : Rs K W U H ws xs os) (k : KeepA [W, U] H H') :
    ∃ cs vs : List V, H W = some (.lst cs.reverse) ∧ H U = some (.lst vs.reverse) ∧ Al (Wnt K (offs (W :: U :: os) H')) cs ws ∧ Vls K (offs (W :: U :: os) H') H' vs xs os := by
  obtain ⟨cs, h1, h2⟩ := R.wt
  obtain ⟨vs, h3, h4⟩ := R.vl
  have k2 : KeepA (W :: U :: os) H H' := k.mono (by simp)
  have keep : ∀ o ∈ os, H' o = H o := fun o m => by
    have no : o ≠ U := fun z => R.nu (by rw [← z]; exact m)
    have nw : o ≠ W := fun z => R.nw (by rw [← z]; exact m)
    obtain ⟨y, e⟩ := h4.lst o m
    rw [e]
    exact k o y (by simp [no, nw]) e
  exact ⟨cs, vs, h1, h3, h2.mono fun a b _ z => z.same k2.offs, h4.mono k2.offs keep⟩
/-- what is new -/
theorem Rs.same {K : PySem.W.Frag} {W U : Addr} {H H' : Hp} {ws : List Wn} {xs : List Vl} {os : List Addr} (R : Rs K W U H ws xs os) (s : Same H H') : Rs K W U H' ws xs os := by
  obtain ⟨cs, vs, h1, h2, h3, h4⟩ := R.read (s.keepA)
  exact ⟨R.ne, R.nw, R.nu, ⟨cs, s _ _ h1, h3⟩, ⟨vs, s _ _ h2, h4⟩⟩
/-- another list of what is wanted -/
theorem Rs.setW {K : PySem.W.Frag} {W U : Addr} {H H' : Hp} {ws ws' : List Wn} {xs : List Vl} {os : List Addr} (R : Rs K W U H ws xs os) (k : KeepA [W] H H') {cs' : List V} (h : H' W = some (.lst cs'.reverse))
    (ha : Al (Wnt K (offs (W :: U :: os) H')) cs' ws') : Rs K W U H' ws' xs os := by
  obtain ⟨cs, vs, h1, h2, h3, h4⟩ := R.read (k.mono (by simp))
  exact ⟨R.ne, R.nw, R.nu, ⟨cs', h, ha⟩, ⟨vs, k _ _ (by simp [R.ne.symm]) h2, h4⟩⟩
/-- another list of values -/
theorem Rs.setU {K : PySem.W.Frag} {W U : Addr} {H H' : Hp} {ws : List Wn} {xs xs' : List Vl} {os : List Addr} (R : Rs K W U H ws xs os) (k : KeepA [U] H H') {vs' : List V} (h : H' U = some (.lst vs'.reverse))
    (ha : Vls K (offs (W :: U :: os) H') H' vs' xs' os) : Rs K W U H' ws xs' os := by
  obtain ⟨cs, vs, h1, h2, h3, h4⟩ := R.read (k.mono (by simp))
  exact ⟨R.ne, R.nw, R.nu, ⟨cs, k _ _ (by simp [R.ne]) h1, h3⟩, ⟨vs', h, ha⟩⟩
/-- wanted has one more on top -/
theorem Rs.putW {K : PySem.W.Frag} {W U : Addr} {H H' : Hp} {ws : List Wn} {xs : List Vl} {os : List Addr} {c : Wn} {v : V} {cs : List V} (R : Rs K W U H ws xs os) (hc : H W = some (.lst cs)) (k : KeepA [W] H H')
    (h : H' W = some (.lst (cs ++ [v]))) (hv : Wnt K (offs (W :: U :: os) H') v c) : Rs K W U H' (c :: ws) xs os := by
  obtain ⟨cs0, vs, h1, h2, h3, h4⟩ := R.read (k.mono (by simp))
  rw [hc] at h1
  have e : cs = cs0.reverse := by injection h1 with h1; injection h1
  refine R.setW k (cs' := v :: cs0) (by rw [h, e, List.reverse_cons]) ?_
  refine ⟨by simp [h3.1], fun i a b ha hb => ?_⟩
  cases i with
  | zero => simp at ha hb; subst ha; subst hb; exact hv
  | succ i => exact h3.2 i a b (by simpa using ha) (by simpa using hb)
/-- the values have one more on top, with no list of its own -/
theorem Rs.putU {K : PySem.W.Frag} {W U : Addr} {H H' : Hp} {ws : List Wn} {xs : List Vl} {os : List Addr} {x : Vl} {v : V} {vs : List V} (R : Rs K W U H ws xs os) (hc : H U = some (.lst vs)) (k : KeepA [U] H H')
    (h : H' U = some (.lst (vs ++ [v]))) (hv : ∀ {G : Hp} {r : List V}, G = offs (W :: U :: os) H' → Vls K G H' r xs os → Vls K G H' (v :: r) (x :: xs) os) : Rs K W U H' ws (x :: xs) os := by
  obtain ⟨cs, vs0, h1, h2, h3, h4⟩ := R.read (k.mono (by simp))
  rw [hc] at h2
  have e : vs = vs0.reverse := by injection h2 with h2; injection h2
  exact R.setU k (vs' := v :: vs0) (by rw [h, e, List.reverse_cons]) (hv rfl h4)
theorem Rs.mv {K : PySem.W.Frag} {W U : Addr} {H H' : Hp} {ws : List Wn} {xs : List Vl} {os : List Addr} (R : Rs K W U H' ws xs os) (k : KeepA (W :: U :: os) H H') : Mv K W U os H H' ws xs := ⟨os, R, k, fun o m => .inl m⟩
theorem Rs.listW {K : PySem.W.Frag} {W U : Addr} {H : Hp} {ws : List Wn} {xs : List Vl} {os : List Addr} (R : Rs K W U H ws xs os) : ∃ cs : List V, H W = some (.lst cs) ∧ cs.length = ws.length := by
  obtain ⟨cs, h1, h2⟩ := R.wt
  exact ⟨_, h1, by rw [List.length_reverse]; exact h2.1⟩
theorem Rs.listU {K : PySem.W.Frag} {W U : Addr} {H : Hp} {ws : List Wn} {xs : List Vl} {os : List Addr} (R : Rs K W U H ws xs os) : ∃ vs : List V, H U = some (.lst vs) ∧ vs.length = xs.length := by
  obtain ⟨vs, h1, h2⟩ := R.vl
  exact ⟨_, h1, by rw [List.length_reverse]; exact h2.len⟩
theorem Rs.notin {K : PySem.W.Frag} {W U : Addr} {H : Hp} {ws : List Wn} {xs : List Vl} {os : List Addr} (R : Rs K W U H ws xs os) {p : Addr} (h : H p = none) : p ∉ W :: U :: os := by
  obtain ⟨cs, h1, _⟩ := R.listW
  obtain ⟨vs, h2, _⟩ := R.listU
  obtain ⟨_, _, h4⟩ := R.vl
  intro m
  rcases List.mem_cons.mp m with rfl | m
  · rw [h] at h1; cases h1
  rcases List.mem_cons.mp m with rfl | m
  · rw [h] at h2; cases h2
  · obtain ⟨y, e⟩ := h4.lst p m
    rw [h] at e
    cases e
/-- the def that takes a word where c.what is wanted -/
def spTake (K : PySem.W.Frag) (what : Str) : Sp := fun vs H Q _ => ∃ (x : Str) (c : Wn) (W U : Addr) (ws ws' : List Wn) (xs xs' : List Vl) (os : List Addr), c.what = what ∧ vs = [.str x, .str c.which, .ref W, .ref U] ∧ x.length ≤ 1000 ∧
  Rs K W U H ws xs os ∧ few what ws xs ∧ Take c x ws xs ws' xs' ∧ (∀ k, x = intS k → -(10 ^ 30) ≤ k ∧ k ≤ 10 ^ 30) ∧ ∀ H', Mv K W U os H H' ws' xs' → Q (.bl true) H'
/-- what stands behind the words, as tuples of the text -/
structure Bhd (w : World) (K : PySem.W.Frag) (mg : Str → Option Value) (D : Addr) (es : Array DictEntry) (n : Nat) : Prop where
  at_ : mg "WANTED_BEHIND" = some (.ref D)
  kd : KDict K w D es n
  fn : ∀ r ∈ ([("fun", bhFun), ("let", bhLet), ("rec", bhRec), ("if", bhIf), ("of", bhOf), ("app", bhApp), (".", bhDot), ("with", bhWith), (",", bhComma), ("=", bhEq)] : List (Str × List Wn)),
    ∃ (a : Addr) (vs : List V), PySem.W.nsIn K D r.1 = some (some (.ref a)) ∧ (∀ H, SqT K H a vs) ∧ ∀ H, Al (Wnt K H) vs r.2
theorem Rs.wantK {K : PySem.W.Frag} {W U : Addr} {H H' : Hp} {ws bh : List Wn} {xs : List Vl} {os : List Addr} {cs ys : List V} (R : Rs K W U H ws xs os) (hc : H W = some (.lst cs)) (k : Keep W H H')
    (h : H' W = some (.lst (cs ++ ys.reverse))) (hy : Al (Wnt K (offs (W :: U :: os) H')) ys bh) : Rs K W U H' (bh ++ ws) xs os := by
  have k1 : KeepA [W] H H' := k.keepA (by simp)
  obtain ⟨cs0, vs, h1, h2, h3, h4⟩ := R.read (k1.mono (by simp))
  rw [hc] at h1
  have e : cs = cs0.reverse := by injection h1 with h1; injection h1
  refine R.setW k1 (cs' := ys ++ cs0) (by rw [h, e, List.reverse_append]) ?_
  exact hy.app h3
abbrev s_take_word : Stmt := topS 55
abbrev N_take_word : List Str := ["word", "which", "wanted", "values"]
theorem sc_take_word : FnScope N_take_word ["word", "which", "wanted", "values"] (defScope s_take_word) := ⟨rfl, rfl, rfl, by decide +kernel, rfl, by decide +kernel, by decide +kernel⟩
abbrev s_take_name : Stmt := topS 56
abbrev N_take_name : List Str := ["word", "which", "wanted", "values"]
theorem sc_take_name : FnScope N_take_name ["word", "which", "wanted", "values"] (defScope s_take_name) := ⟨rfl, rfl, rfl, by decide +kernel, rfl, by decide +kernel, by decide +kernel⟩
abbrev s_take_integer : Stmt := topS 57
abbrev N_take_integer : List Str := ["word", "which", "wanted", "values"]
theorem sc_take_integer : FnScope N_take_integer ["word", "which", "wanted", "values"] (defScope s_take_integer) := ⟨rfl, rfl, rfl, by decide +kernel, rfl, by decide +kernel, by decide +kernel⟩
section
variable {P : Program} {w : World} {K : PySem.W.Frag} {mg : Str → Option Value} {base : Heap}
theorem ok_take_word (S : Stands K mg "take_word" s_take_word ["word", "which", "wanted", "values"]) : DefOk P w K mg base CX0 3 "take_word" ["word", "which", "wanted", "values"] (spTake K "word") := by
  obtain ⟨f, fd, F, hm, hb⟩ := S
  refine ⟨f, fd, ?_, hm, F.kp, hb⟩
  have nd := sc_take_word.nd
  refine F.ok sc_take_word (fun vs H Q E h => ?_) (fun cdv A outer s0 H vs Q E hr h => ?_)
  · obtain ⟨x, c, W, U, ws, ws', xs, xs', os, _, rfl, _⟩ := h
    rfl
  obtain ⟨x, c, W, U, ws, ws', xs, xs', os, hc, rfl, hl, R, hf, ht, hi, q⟩ := h
  refine ⟨_, (pss_one (ps_ret (pe_cmpR op_eq (pv 0) (pv 1) (nomark _)))), ?_⟩
  cases ht with
  | word =>
    walk_at "rd"
    refine (show Q (.bl (decide (V.str x = V.str (Wn.word x).which))) H from ?_)
    rw [decide_eq_true (show V.str x = V.str (Wn.word x).which from rfl)]
    exact q H (R.mv fun b o _ e => e)
  | _ => (simp only [Wn.what] at hc; exact absurd hc (by decide))
theorem ok_take_name (S : Stands K mg "take_name" s_take_name ["word", "which", "wanted", "values"]) (H_can_be_name : DefOk P w K mg base CX0 2 "can_be_name" ["word"] spCan) : DefOk P w K mg base CX0 3 "take_name" ["word", "which", "wanted", "values"] (spTake K "name") := by
  obtain ⟨f, fd, F, hm, hb⟩ := S
  obtain ⟨f_can_be_name, fd_can_be_name, G_can_be_name, m_can_be_name, k_can_be_name, b_can_be_name⟩ := H_can_be_name
  refine ⟨f, fd, ?_, hm, F.kp, hb⟩
  have nd := sc_take_name.nd
  refine F.ok sc_take_name (fun vs H Q E h => ?_) (fun cdv A outer s0 H vs Q E hr h => ?_)
  · obtain ⟨x, c, W, U, ws, ws', xs, xs', os, _, rfl, _⟩ := h
    rfl
  obtain ⟨x, c, W, U, ws, ws', xs, xs', os, hc, rfl, hl, R, hf, ht, hi, q⟩ := h
  refine ⟨_, (pss_cons (ps_expr (pe_bm PySem.F.plainAttrs_list PySem.F.slot_list_append PySem.F.type_list_append mt_append (pv 3) (pa_cons (pv 0) pa_nil)))
      (pss_one (ps_ret (pe_call G_can_be_name (hr.mono (by decide)) rfl m_can_be_name k_can_be_name b_can_be_name .nil pass0 (pa_cons (pv 0) pa_nil))))), ?_⟩
  cases ht with
  | name hn =>
    obtain ⟨vs, hU, lU⟩ := R.listU
    walk_at "rd"
    refine ⟨.inl ⟨rfl, _, SqL.of hU⟩, ?_⟩
    walk_at "rd"
    have hfew : vs.length < sizeLine := by
      have hf := hf.le
      have : 1000100 < sizeLine := by decide +kernel
      omega
    refine ⟨U, vs, _, rfl, rfl, hU, hfew, ?_⟩
    walk_at "rd"
    have k1 : KeepA [U] H (upd H U (.lst (vs ++ [V.str x]))) := KeepA.wr (by simp)
    refine fun H1 S1 => ?_
    refine q H1 ?_
    exact ((R.putU (x := .nm x) hU k1 upd_same fun _ z => .nm z).same S1).mv ((k1.mono (by simp)).trans S1.keepA)
  | _ => (simp only [Wn.what] at hc; exact absurd hc (by decide))
theorem ok_take_integer (S : Stands K mg "take_integer" s_take_integer ["word", "which", "wanted", "values"]) (H_is_written_integer : DefOk P w K mg base CX0 1 "is_written_integer" ["word"] spWrit) (H_integer_of : DefOk P w K mg base CX0 1 "integer_of" ["word"] spIntOf) :
    DefOk P w K mg base CX0 3 "take_integer" ["word", "which", "wanted", "values"] (spTake K "integer") := by
  obtain ⟨f, fd, F, hm, hb⟩ := S
  obtain ⟨f_is_written_integer, fd_is_written_integer, G_is_written_integer, m_is_written_integer, k_is_written_integer, b_is_written_integer⟩ := H_is_written_integer
  obtain ⟨f_integer_of, fd_integer_of, G_integer_of, m_integer_of, k_integer_of, b_integer_of⟩ := H_integer_of
  refine ⟨f, fd, ?_, hm, F.kp, hb⟩
  have nd := sc_take_integer.nd
  refine F.ok sc_take_integer (fun vs H Q E h => ?_) (fun cdv A outer s0 H vs Q E hr h => ?_)
  · obtain ⟨x, c, W, U, ws, ws', xs, xs', os, _, rfl, _⟩ := h
    rfl
  obtain ⟨x, c, W, U, ws, ws', xs, xs', os, hc, rfl, hl, R, hf, ht, hi, q⟩ := h
  refine ⟨_, (pss_cons (ps_if (pt_not (pt_val (pe_call G_is_written_integer (hr.mono (by decide)) rfl m_is_written_integer k_is_written_integer b_is_written_integer .nil pass0 (pa_cons (pv 0) pa_nil)))) (pss_one (ps_ret pe_bl)) pss_nil)
      (pss_cons (ps_expr (pe_bm PySem.F.plainAttrs_list PySem.F.slot_list_append PySem.F.type_list_append mt_append (pv 3) (pa_cons (pe_call G_integer_of (hr.mono (by decide)) rfl m_integer_of k_integer_of b_integer_of .nil pass0 (pa_cons (pv 0) pa_nil)) pa_nil)))
      (pss_one (ps_ret pe_bl)))), ?_⟩
  cases ht with
  | @integer k _ _ =>
    obtain ⟨vs, hU, lU⟩ := R.listU
    have hk := hi k rfl
    walk_at "rd"
    refine ⟨.inl ⟨k, rfl⟩, ?_⟩
    rw [numFlag_num]
    refine ⟨true, rfl, ifF rfl ?_⟩
    walk_at "rd"
    refine ⟨.inl ⟨rfl, _, SqL.of hU⟩, ?_⟩
    walk_at "rd"
    have hfew : vs.length < sizeLine := by
      have hf := hf.le
      have : 1000100 < sizeLine := by decide +kernel
      omega
    refine ⟨U, vs, _, rfl, rfl, hU, hfew, ?_⟩
    walk_at "rd"
    have k1 : KeepA [U] H (upd H U (.lst (vs ++ [V.int k]))) := KeepA.wr (by simp)
    refine q _ ?_
    exact (R.putU (x := .num k) hU k1 upd_same fun _ z => .num z).mv (k1.mono (by simp))
  | _ => (simp only [Wn.what] at hc; exact absurd hc (by decide))
end
end Vt


set_option Elab.async false
set_option linter.all false
set_option maxRecDepth 100000
set_option maxHeartbeats 4000000

namespace Vt
open PySem PySem.Spec PyProof.Rows L2 TL
/-! ### words that begin a term -/
theorem notNum_of {x : Str} (h : (match x.cps.toList with | [] => false | c :: _ => c != 45 && !Unicode.isDigit c) = true) : notNum x := by
  match e : x.cps.toList, h with
  | c :: r, h =>
    simp only [Bool.and_eq_true, bne_iff_ne, ne_eq, Bool.not_eq_true'] at h
    exact ⟨c, r, e, h.1, h.2⟩
theorem int_ne (k : Int) {y : Str} (h : notNum y) : intS k ≠ y := fun e => by
  have := numFlag_num k
  rw [e, numFlag_not h] at this
  cases this
theorem nn_paren : notNum "(" := notNum_of (by decide +kernel)
theorem nn_brace : notNum "{" := notNum_of (by decide +kernel)
theorem nn_true : notNum "true" := notNum_of (by decide +kernel)
theorem nn_false : notNum "false" := notNum_of (by decide +kernel)
theorem PureName.ne {n y : Str} (h : PureName n) (k : ¬ isName y ∨ y ∈ noNames) : n ≠ y := fun e => by
  rcases k with k | k
  · exact k (by rw [← e]; exact h.nm)
  · exact h.no (by rw [e]; exact k)
theorem eqF {x y : Str} (h : x ≠ y) : decide (V.str x = V.str y) = false := decide_eq_false fun e => h (V.str.inj e)
theorem eqT {x : Str} : decide (V.str x = V.str x) = true := decide_eq_true rfl
/-- what can begin a term is none of these words -/
theorem TakeT.ne {x : Str} {ws ws' : List Wn} {xs xs' : List Vl} (h : TakeT x ws xs ws' xs') {y : Str} (hy : y ∈ (["fun", "let", "rec", "if", ",", ".", "with", "of"] : List Str)) : x ≠ y := by
  have a : notNum y ∧ (¬ isName y ∨ y ∈ noNames) ∧ y ≠ "(" ∧ y ≠ "{" ∧ y ≠ "true" ∧ y ≠ "false" := by
    simp only [List.mem_cons, List.not_mem_nil, or_false] at hy
    rcases hy with rfl | rfl | rfl | rfl | rfl | rfl | rfl | rfl
    all_goals exact ⟨notNum_of (by decide +kernel), by decide +kernel, by decide +kernel, by decide +kernel, by decide +kernel, by decide +kernel⟩
  obtain ⟨a1, a2, a3, a4, a5, a6⟩ := a
  cases h with
  | paren => exact a3.symm
  | brace => exact a4.symm
  | @bool b _ _ => cases b; exact a6.symm; exact a5.symm
  | int => exact int_ne _ a1
  | var hn => exact hn.ne a2
theorem Wnt.mk {K : PySem.W.Frag} {G : Hp} {a : Addr} {c : Wn} {x y : Str} (h : G a = some (.tup [.str x, .str y])) (h1 : c.what = x) (h2 : c.which = y) : Wnt K G (.ref a) c := ⟨a, rfl, by rw [h1, h2]; exact SqT.of h⟩
theorem Rs.fewW {K : PySem.W.Frag} {W U : Addr} {H : Hp} {ws : List Wn} {xs : List Vl} {os : List Addr} (R : Rs K W U H ws xs os) (hf : ws.length + xs.length ≤ 1001000) : ∃ cs : List V, H W = some (.lst cs) ∧ cs.length < sizeLine := by
  obtain ⟨cs, h, l⟩ := R.listW
  have : 1001000 < sizeLine := by decide +kernel
  exact ⟨cs, h, by omega⟩
theorem Rs.fewU {K : PySem.W.Frag} {W U : Addr} {H : Hp} {ws : List Wn} {xs : List Vl} {os : List Addr} (R : Rs K W U H ws xs os) (hf : ws.length + xs.length ≤ 1001000) : ∃ cs : List V, H U = some (.lst cs) ∧ cs.length < sizeLine := by
  obtain ⟨cs, h, l⟩ := R.listU
  have : 1001000 < sizeLine := by decide +kernel
  exact ⟨cs, h, by omega⟩
/-- a new tuple of two on top of wanted -/
theorem Rs.newW {K : PySem.W.Frag} {W U : Addr} {H : Hp} {ws : List Wn} {xs : List Vl} {os : List Addr} {cs : List V} {p : Addr} {x y : Str} {c : Wn} (R : Rs K W U H ws xs os) (hc : H W = some (.lst cs)) (hp : H p = none) (h1 : c.what = x) (h2 : c.which = y) :
    Rs K W U (upd (upd H p (.tup [.str x, .str y])) W (.lst (cs ++ [.ref p]))) (c :: ws) xs os ∧ KeepA (W :: U :: os) H (upd (upd H p (.tup [.str x, .str y])) W (.lst (cs ++ [.ref p]))) := by
  have np := R.notin hp
  have pw : p ≠ W := fun z => np (by simp [z])
  have S1 := same_new hp (.tup [V.str x, V.str y])
  have R1 := R.same S1
  have k1 : KeepA [W] (upd H p (.tup [.str x, .str y])) (upd (upd H p (.tup [.str x, .str y])) W (.lst (cs ++ [.ref p]))) := KeepA.wr (by simp)
  refine ⟨R1.putW (S1 _ _ hc) k1 upd_same (Wnt.mk ?_ h1 h2), S1.keepA.trans (k1.mono (by simp))⟩
  rw [offs_out np, upd_ne pw]
  exact upd_same
/-- a new tuple on top of the values -/
theorem Rs.newU {K : PySem.W.Frag} {W U : Addr} {H : Hp} {ws : List Wn} {xs : List Vl} {os : List Addr} {cs zs : List V} {p : Addr} {t : T} (R : Rs K W U H ws xs os) (hc : H U = some (.lst cs)) (hp : H p = none) (ht : ∀ G : Hp, G p = some (.tup zs) → Tm K G (.ref p) t) :
    Rs K W U (upd (upd H p (.tup zs)) U (.lst (cs ++ [.ref p]))) ws (.tm t :: xs) os ∧ KeepA (W :: U :: os) H (upd (upd H p (.tup zs)) U (.lst (cs ++ [.ref p]))) := by
  have np := R.notin hp
  have pu : p ≠ U := fun z => np (by simp [z])
  have S1 := same_new hp (.tup zs)
  have R1 := R.same S1
  have k1 : KeepA [U] (upd H p (.tup zs)) (upd (upd H p (.tup zs)) U (.lst (cs ++ [.ref p]))) := KeepA.wr (by simp)
  refine ⟨R1.putU (S1 _ _ hc) k1 upd_same (fun e z => .tm (ht _ ?_) z), S1.keepA.trans (k1.mono (by simp))⟩
  rw [e, offs_out np, upd_ne pu]
  exact upd_same
/-- a new empty list on top of the values, for fields -/
theorem Rs.newF {K : PySem.W.Frag} {W U : Addr} {H : Hp} {ws : List Wn} {xs : List Vl} {os : List Addr} {cs : List V} {p : Addr} (R : Rs K W U H ws xs os) (hc : H U = some (.lst cs)) (hp : H p = none) :
    Rs K W U (upd (upd H p (.lst [])) U (.lst (cs ++ [.ref p]))) ws (.flds [] [] :: xs) (p :: os) ∧ KeepA (W :: U :: os) H (upd (upd H p (.lst [])) U (.lst (cs ++ [.ref p]))) := by
  have np := R.notin hp
  have pu : p ≠ U := fun z => np (by simp [z])
  have pw : p ≠ W := fun z => np (by simp [z])
  have po : p ∉ os := fun z => np (by simp [z])
  have S1 := same_new hp (.lst [])
  have k1 : KeepA [U] (upd H p (.lst [])) (upd (upd H p (.lst [])) U (.lst (cs ++ [.ref p]))) := KeepA.wr (by simp)
  have kU : KeepA [U] H (upd (upd H p (.lst [])) U (.lst (cs ++ [.ref p]))) := S1.keepA.trans k1
  have kk := kU.mono (bs := W :: U :: os) (by simp)
  obtain ⟨c0, h1, h3⟩ := R.wt
  obtain ⟨vs0, h2, h4⟩ := R.vl
  rw [hc] at h2
  have e : cs = vs0.reverse := by injection h2 with h2; injection h2
  have hP : (upd (upd H p (.lst [])) U (.lst (cs ++ [.ref p]))) p = some (.lst []) := by rw [upd_ne pu]; exact upd_same
  have hW2 := kU W _ (by simp [R.ne]) h1
  have keep : ∀ o ∈ os, (upd (upd H p (.lst [])) U (.lst (cs ++ [.ref p]))) o = H o := fun o m => by
    obtain ⟨y, ey⟩ := h4.lst o m
    rw [ey]
    exact kU o y (by simp; exact fun z => R.nu (by rw [← z]; exact m)) ey
  have so : Same (offs (W :: U :: os) H) (offs (W :: U :: p :: os) (upd (upd H p (.lst [])) U (.lst (cs ++ [.ref p])))) := fun b o eb => by
    by_cases hb : b ∈ W :: U :: os
    · rw [offs_in hb] at eb
      cases eb
    · rw [offs_out hb] at eb
      have nb : b ≠ p := fun z => by rw [z, hp] at eb; cases eb
      rw [offs_out (by simp at hb ⊢; exact ⟨hb.1, hb.2.1, nb, hb.2.2⟩)]
      exact kk b o hb eb
  refine ⟨⟨R.ne, ?_, ?_, ⟨c0, hW2, h3.mono fun a b _ z => z.same so⟩, ⟨.ref p :: vs0, ?_, .flds (bs := []) (us := []) (by rw [hP]; rfl) rfl rfl rfl (by simp) (by simp) po (h4.mono so keep)⟩⟩, kk⟩
  · simp; exact ⟨pw.symm, R.nw⟩
  · simp; exact ⟨pu.symm, R.nu⟩
  · rw [upd_same, e, List.reverse_cons]
/-- .. or is a number, or begins as none -/
theorem TakeT.num {x : Str} {ws ws' : List Wn} {xs xs' : List Vl} (h : TakeT x ws xs ws' xs') : isNum x ∨ notNum x := by
  cases h with
  | paren => exact .inr nn_paren
  | brace => exact .inr nn_brace
  | @bool b _ _ => cases b; exact .inr nn_false; exact .inr nn_true
  | @int k _ _ => exact .inl ⟨k, rfl⟩
  | var hn => exact .inr (notNum_name hn.nm)
theorem KeepA.chain {as bs : List Addr} {H H1 H2 : Hp} (a : KeepA as H H1) (b : KeepA bs H1 H2) (s : ∀ c ∈ bs, c ∈ as ∨ H c = none) : KeepA as H H2 := fun c o n e => b c o (fun m => by
  rcases s c m with z | z
  · exact n z
  · rw [z] at e; cases e) (a c o n e)
theorem Mv.chain {K : PySem.W.Frag} {W U : Addr} {os o1 : List Addr} {H H1 H2 : Hp} {ws ws' : List Wn} {xs xs' : List Vl} (R1 : Rs K W U H1 ws xs o1) (k1 : KeepA (W :: U :: os) H H1) (s1 : ∀ o ∈ o1, o ∈ os ∨ H o = none) (m : Mv K W U o1 H1 H2 ws' xs') : Mv K W U os H H2 ws' xs' := by
  obtain ⟨o2, R2, k2, s2⟩ := m
  refine ⟨o2, R2, k1.chain k2 ?_, ?_⟩
  · intro c m
    rcases List.mem_cons.mp m with rfl | m
    · exact .inl (by simp)
    rcases List.mem_cons.mp m with rfl | m
    · exact .inl (by simp)
    rcases s1 c m with z | z
    · exact .inl (by simp [z])
    · exact .inr z
  · intro o m
    rcases s2 o m with z | z
    · exact s1 o z
    · by_cases hh : o ∈ W :: U :: os
      · by_cases ho : o ∈ os
        · exact .inl ho
        · obtain ⟨cs, h1, _⟩ := R1.listW
          obtain ⟨vs, h2, _⟩ := R1.listU
          simp [ho] at hh
          rcases hh with rfl | rfl
          · rw [z] at h1; cases h1
          · rw [z] at h2; cases h2
      · refine .inr ?_
        cases e : H o with
        | none => rfl
        | some y =>
          have := k1 o y hh e
          rw [z] at this
          cases this
theorem Mv.after {K : PySem.W.Frag} {W U : Addr} {os : List Addr} {H H1 H2 : Hp} {ws ws' : List Wn} {xs xs' : List Vl} (R1 : Rs K W U H1 ws xs os) (k1 : KeepA (W :: U :: os) H H1) (m : Mv K W U os H1 H2 ws' xs') : Mv K W U os H H2 ws' xs' := Mv.chain R1 k1 (fun o h => .inl h) m
theorem Mv.step {K : PySem.W.Frag} {W U : Addr} {os : List Addr} {H H1 H2 : Hp} {ws ws' : List Wn} {xs xs' : List Vl} (m : Mv K W U os H H1 ws xs) (f : ∀ os1, Rs K W U H1 ws xs os1 → Mv K W U os1 H1 H2 ws' xs') : Mv K W U os H H2 ws' xs' := by
  obtain ⟨o1, R1, k1, s1⟩ := m
  exact Mv.chain R1 k1 s1 (f o1 R1)
abbrev s_take_term : Stmt := topS 58
abbrev N_take_term : List Str := ["word", "which", "wanted", "values"]
theorem sc_take_term : FnScope N_take_term ["word", "which", "wanted", "values"] (defScope s_take_term) := ⟨rfl, rfl, rfl, by decide +kernel, rfl, by decide +kernel, by decide +kernel⟩
section
variable {P : Program} {w : World} {K : PySem.W.Frag} {mg : Str → Option Value} {base : Heap}
theorem ok_take_term (S : Stands K mg "take_term" s_take_term ["word", "which", "wanted", "values"]) (H_is_written_integer : DefOk P w K mg base CX0 1 "is_written_integer" ["word"] spWrit) (H_integer_of : DefOk P w K mg base CX0 1 "integer_of" ["word"] spIntOf)
    (H_can_be_name : DefOk P w K mg base CX0 2 "can_be_name" ["word"] spCan) : DefOk P w K mg base CX0 3 "take_term" ["word", "which", "wanted", "values"] (spTake K "term") := by
  obtain ⟨f, fd, F, hm, hb⟩ := S
  obtain ⟨f_is_written_integer, fd_is_written_integer, G_is_written_integer, m_is_written_integer, k_is_written_integer, b_is_written_integer⟩ := H_is_written_integer
  obtain ⟨f_integer_of, fd_integer_of, G_integer_of, m_integer_of, k_integer_of, b_integer_of⟩ := H_integer_of
  obtain ⟨f_can_be_name, fd_can_be_name, G_can_be_name, m_can_be_name, k_can_be_name, b_can_be_name⟩ := H_can_be_name
  refine ⟨f, fd, ?_, hm, F.kp, hb⟩
  have nd := sc_take_term.nd
  refine F.ok sc_take_term (fun vs H Q E h => ?_) (fun cdv A outer s0 H vs Q E hr h => ?_)
  · obtain ⟨x, c, W, U, ws, ws', xs, xs', os, _, rfl, _⟩ := h
    rfl
  obtain ⟨x, c, W, U, ws, ws', xs, xs', os, hc, rfl, hl, R, hf, ht, hi, q⟩ := h
  have hf' := hf.le
  obtain ⟨cs, hW, lW⟩ := R.fewW (by omega)
  obtain ⟨us, hU, lU⟩ := R.fewU (by omega)
  refine ⟨_, (C8.pss_cut (ps_if (pt_cmpR op_eq (pv 0) pe_str (nomark _)) (pss_one (ps_expr (pe_bm PySem.F.plainAttrs_list PySem.F.slot_list_append PySem.F.type_list_append mt_append (pv 2) (pa_cons (pe_tup (pa_cons pe_str (pa_cons pe_str pa_nil))) pa_nil)))) (pss_one (ps_if (pt_cmpR op_eq (pv 0) pe_str (nomark _)) (pss_cons (ps_expr (pe_bm PySem.F.plainAttrs_list PySem.F.slot_list_append PySem.F.type_list_append mt_append (pv 3) (pa_cons (pe_lst pa_nil) pa_nil)))
      (pss_one (ps_expr (pe_bm PySem.F.plainAttrs_list PySem.F.slot_list_append PySem.F.type_list_append mt_append (pv 2) (pa_cons (pe_tup (pa_cons pe_str (pa_cons pe_str pa_nil))) pa_nil))))) (pss_one (ps_if (PW.pt (pw_or (pt_cmpR op_eq (pv 0) pe_str (nomark _)) (pw_or1 (pt_cmpR op_eq (pv 0) pe_str (nomark _))))) (pss_one (ps_expr (pe_bm PySem.F.plainAttrs_list PySem.F.slot_list_append PySem.F.type_list_append mt_append (pv 3) (pa_cons (pe_tup (pa_cons pe_str (pa_cons (pe_cmpR op_eq (pv 0) pe_str (nomark _)) pa_nil))) pa_nil)))) (pss_one (ps_if (pt_val (pe_call G_is_written_integer (hr.mono (by decide)) rfl m_is_written_integer k_is_written_integer b_is_written_integer .nil pass0 (pa_cons (pv 0) pa_nil))) (pss_one (ps_expr (pe_bm PySem.F.plainAttrs_list PySem.F.slot_list_append PySem.F.type_list_append mt_append (pv 3) (pa_cons (pe_tup (pa_cons pe_str (pa_cons (pe_call G_integer_of (hr.mono (by decide)) rfl m_integer_of k_integer_of b_integer_of .nil pass0 (pa_cons (pv 0) pa_nil)) pa_nil))) pa_nil)))) (pss_cons (ps_expr (pe_bm PySem.F.plainAttrs_list PySem.F.slot_list_append PySem.F.type_list_append mt_append (pv 3) (pa_cons (pe_tup (pa_cons pe_str (pa_cons (pv 0) pa_nil))) pa_nil)))
      (pss_one (ps_ret (pe_call G_can_be_name (hr.mono (by decide)) rfl m_can_be_name k_can_be_name b_can_be_name .nil pass0 (pa_cons (pv 0) pa_nil))))))))))))
      (pss_one (ps_ret pe_bl))), ?_⟩
  have hlen : 1000000 < sizeLine := by decide +kernel
  refine ⟨fun σ' X' => Mv K W U os H X' ws' xs', ?_, ?_⟩
  · cases ht with
    | term ht =>
      cases ht with
      | paren =>
        walk_at "rd"
        refine ⟨.inl ⟨rfl, _, SqL.of hW⟩, ?_⟩
        walk_at "rd"
        intro p hp
        have S1 := same_new hp (.tup [V.str "opened", V.str ""])
        refine ⟨W, cs, _, rfl, rfl, S1 _ _ hW, lW, ?_⟩
        obtain ⟨R2, k2⟩ := R.newW hW hp (c := .opened) rfl rfl
        exact R2.mv k2
      | brace =>
        walk_at "rd"
        refine ⟨.inl ⟨rfl, _, SqL.of hU⟩, ?_⟩
        walk_at "rd"
        intro p hp
        have S1 := same_new hp (.lst [])
        refine ⟨U, us, _, rfl, rfl, S1 _ _ hU, lU, ?_⟩
        obtain ⟨R2, k2⟩ := R.newF hU hp
        generalize upd (upd H p (.lst [])) U (.lst (us ++ [V.ref p])) = H2 at R2 k2 ⊢
        have m2 : Mv K W U os H H2 ws (.flds [] [] :: xs) := ⟨p :: os, R2, k2, fun o m => by
          rcases List.mem_cons.mp m with rfl | m
          · exact .inr hp
          · exact .inl m⟩
        obtain ⟨cs2, hW2, lW2⟩ := R2.fewW (by simp; omega)
        walk_at "rd"
        refine ⟨.inl ⟨rfl, _, SqL.of hW2⟩, ?_⟩
        walk_at "rd"
        intro p2 hp2
        have S2 := same_new hp2 (.tup [V.str "fields", V.str "{"])
        refine ⟨W, cs2, _, rfl, rfl, S2 _ _ hW2, lW2, ?_⟩
        refine m2.step fun os1 R3 => ?_
        obtain ⟨R4, k4⟩ := R3.newW hW2 hp2 (c := .fields true) rfl rfl
        exact R4.mv k4
      | @bool b _ _ =>
        cases b with
        | true =>
          walk_at "rd"
          refine ⟨.inl ⟨rfl, _, SqL.of hU⟩, ?_⟩
          walk_at "rd"
          intro p hp
          have S1 := same_new hp (.tup [V.str "bool", V.bl true])
          refine ⟨U, us, _, rfl, rfl, S1 _ _ hU, lU, ?_⟩
          obtain ⟨R2, k2⟩ := R.newU (zs := [V.str "bool", V.bl true]) (t := .node (.bool true) []) hU hp fun G h => .bool (SqT.of h)
          exact R2.mv k2
        | false =>
          walk_at "rd"
          refine ⟨.inl ⟨rfl, _, SqL.of hU⟩, ?_⟩
          walk_at "rd"
          intro p hp
          have S1 := same_new hp (.tup [V.str "bool", V.bl false])
          refine ⟨U, us, _, rfl, rfl, S1 _ _ hU, lU, ?_⟩
          obtain ⟨R2, k2⟩ := R.newU (zs := [V.str "bool", V.bl false]) (t := .node (.bool false) []) hU hp fun G h => .bool (SqT.of h)
          exact R2.mv k2
      | @int k _ _ =>
        have hk := hi k rfl
        walk_at "rd"
        refine ifF (eqF (int_ne k nn_paren)) ?_
        walk_at "rd"
        refine ifF (eqF (int_ne k nn_brace)) ?_
        walk_at "rd"
        refine ifF (eqF (int_ne k nn_true)) ?_
        walk_at "rd"
        refine ifF (eqF (int_ne k nn_false)) ?_
        walk_at "rd"
        refine ⟨.inl ⟨k, rfl⟩, ?_⟩
        rw [numFlag_num]
        refine ⟨true, rfl, ifT rfl ?_⟩
        walk_at "rd"
        refine ⟨.inl ⟨rfl, _, SqL.of hU⟩, ?_⟩
        walk_at "rd"
        intro p hp
        have S1 := same_new hp (.tup [V.str "int", V.int k])
        refine ⟨U, us, _, rfl, rfl, S1 _ _ hU, lU, ?_⟩
        obtain ⟨R2, k2⟩ := R.newU (zs := [V.str "int", V.int k]) (t := .node (.int k) []) hU hp fun G h => .int (SqT.of h)
        exact R2.mv k2
      | var hn =>
        walk_at "rd"
        refine ifF (eqF (hn.ne (.inl (by decide +kernel)))) ?_
        walk_at "rd"
        refine ifF (eqF (hn.ne (.inl (by decide +kernel)))) ?_
        walk_at "rd"
        refine ifF (eqF (hn.ne (.inr (by decide +kernel)))) ?_
        walk_at "rd"
        refine ifF (eqF (hn.ne (.inr (by decide +kernel)))) ?_
        walk_at "rd"
        refine ⟨.inr (notNum_name hn.nm), ?_⟩
        rw [numFlag_not (notNum_name hn.nm)]
        refine ⟨false, rfl, ifF rfl ?_⟩
        walk_at "rd"
        refine ⟨.inl ⟨rfl, _, SqL.of hU⟩, ?_⟩
        walk_at "rd"
        intro p hp
        have S1 := same_new hp (.tup [V.str "var", V.str x])
        refine ⟨U, us, _, rfl, rfl, S1 _ _ hU, lU, ?_⟩
        obtain ⟨R2, k2⟩ := R.newU (zs := [V.str "var", V.str x]) (t := .node (.var x) []) hU hp fun G h => .var (SqT.of h)
        walk_at "rd"
        intro H3 S3
        refine q H3 ?_
        exact (R2.mv k2).step fun os1 R3 => (R3.same S3).mv S3.keepA
    | _ => (simp only [Wn.what] at hc; exact absurd hc (by decide))
  · intro σ' X' h
    walk_at "rd"
    exact q X' h
end
end Vt


set_option Elab.async false
set_option linter.all false
set_option maxRecDepth 100000
set_option maxHeartbeats 4000000

namespace Vt
open PySem PySem.Spec PyProof.Rows L2 TL
/-! ### words within brackets, items, fields -/
/-- the value on top, a term, becomes another value with no list of its own -/
theorem Rs.topU {K : PySem.W.Frag} {W U : Addr} {H H' : Hp} {ws : List Wn} {xs : List Vl} {os : List Addr} {t : T} {x : Vl} {v v' : V} {r : List V} (R : Rs K W U H ws (.tm t :: xs) os) (hU : H U = some (.lst (r ++ [v]))) (k : KeepA [U] H H') (h : H' U = some (.lst (r ++ [v'])))
    (hv : ∀ {G : Hp} {r : List V}, Vls K G H' r xs os → Vls K G H' (v' :: r) (x :: xs) os) : Rs K W U H' ws (x :: xs) os := by
  obtain ⟨c0, vs0, h1, h2, h3, h4⟩ := R.read (H' := H') (k.mono (by simp))
  rw [hU] at h2
  cases h4 with
  | @tm u _ r0 _ _ ht hr =>
    have e : r ++ [v] = (u :: r0).reverse := by injection h2 with h2; injection h2
    rw [List.reverse_cons] at e
    obtain ⟨e1, e2⟩ := List.append_inj' e rfl
    exact R.setU k (vs' := v' :: r0) (by rw [h, e1, List.reverse_cons]) (hv hr)
/-- the value on top, a term, in a new list -/
theorem Rs.newI {K : PySem.W.Frag} {W U : Addr} {H : Hp} {ws : List Wn} {xs : List Vl} {os : List Addr} {t : T} {v : V} {r : List V} {p : Addr} (R : Rs K W U H ws (.tm t :: xs) os) (hU : H U = some (.lst (r ++ [v]))) (hp : H p = none) :
    Mv K W U os H (upd (upd H p (.lst [v])) U (.lst (r ++ [.ref p]))) ws (.items [t] :: xs) := by
  have np := R.notin hp
  have pu : p ≠ U := fun z => np (by simp [z])
  have pw : p ≠ W := fun z => np (by simp [z])
  have po : p ∉ os := fun z => np (by simp [z])
  have S1 := same_new hp (.lst [v])
  have k1 : KeepA [U] (upd H p (.lst [v])) (upd (upd H p (.lst [v])) U (.lst (r ++ [.ref p]))) := KeepA.wr (by simp)
  have kU : KeepA [U] H (upd (upd H p (.lst [v])) U (.lst (r ++ [.ref p]))) := S1.keepA.trans k1
  have kk := kU.mono (bs := W :: U :: os) (by simp)
  obtain ⟨c0, h1, h3⟩ := R.wt
  obtain ⟨vs0, h2, h4⟩ := R.vl
  rw [hU] at h2
  have hP : (upd (upd H p (.lst [v])) U (.lst (r ++ [.ref p]))) p = some (.lst [v]) := by rw [upd_ne pu]; exact upd_same
  have hW2 := kU W _ (by simp [R.ne]) h1
  have keep : ∀ o ∈ os, (upd (upd H p (.lst [v])) U (.lst (r ++ [.ref p]))) o = H o := fun o m => by
    obtain ⟨y, ey⟩ := h4.lst o m
    rw [ey]
    exact kU o y (by simp; exact fun z => R.nu (by rw [← z]; exact m)) ey
  have so : Same (offs (W :: U :: os) H) (offs (W :: U :: p :: os) (upd (upd H p (.lst [v])) U (.lst (r ++ [.ref p])))) := fun b o eb => by
    by_cases hb : b ∈ W :: U :: os
    · rw [offs_in hb] at eb
      cases eb
    · rw [offs_out hb] at eb
      have nb : b ≠ p := fun z => by rw [z, hp] at eb; cases eb
      rw [offs_out (by simp at hb ⊢; exact ⟨hb.1, hb.2.1, nb, hb.2.2⟩)]
      exact kk b o hb eb
  cases h4 with
  | @tm u _ r0 _ _ ht hr =>
    have e : r ++ [v] = (u :: r0).reverse := by injection h2 with h2; injection h2
    rw [List.reverse_cons] at e
    obtain ⟨e1, e2⟩ := List.append_inj' e rfl
    injection e2 with e2 _
    subst e2
    refine ⟨p :: os, ⟨R.ne, ?_, ?_, ⟨c0, hW2, h3.mono fun a b _ z => z.same so⟩, ⟨.ref p :: r0, ?_, .items hP ?_ po (hr.mono so keep)⟩⟩, kk, ?_⟩
    · simp; exact ⟨pw.symm, R.nw⟩
    · simp; exact ⟨pu.symm, R.nu⟩
    · rw [upd_same, e1, List.reverse_cons]
    · refine ⟨rfl, fun i x y hx hy => ?_⟩
      cases i with
      | zero => simp at hx hy; subst hx; subst hy; exact ht.same so
      | succ i => simp at hx
    · intro o m
      rcases List.mem_cons.mp m with rfl | m
      · exact .inr hp
      · exact .inl m
/-- the term on top of the values -/
theorem Rs.top {K : PySem.W.Frag} {W U : Addr} {H : Hp} {ws : List Wn} {xs : List Vl} {os : List Addr} {t : T} (R : Rs K W U H ws (.tm t :: xs) os) : ∃ r v, H U = some (.lst (r ++ [v])) ∧ Tm K H v t ∧ r.length = xs.length := by
  obtain ⟨vs0, h2, h4⟩ := R.vl
  cases h4 with
  | @tm u _ r0 _ _ ht hr => exact ⟨r0.reverse, u, by rw [h2, List.reverse_cons], ht.same offs_same, by rw [List.length_reverse]; exact hr.len⟩
theorem at_last {r : List V} {v : V} : atI (r ++ [v]) (-1) = some v := by
  have e : ixN (r ++ [v]).length (-1) = some r.length := by
    unfold ixN
    rw [if_neg (by decide)]
    simp
    omega
  unfold atI
  rw [e]
  simp
abbrev s_take_opened : Stmt := topS 59
abbrev N_take_opened : List Str := ["word", "which", "wanted", "values"]
theorem sc_take_opened : FnScope N_take_opened ["word", "which", "wanted", "values"] (defScope s_take_opened) := ⟨rfl, rfl, rfl, by decide +kernel, rfl, by decide +kernel, by decide +kernel⟩
section
variable {P : Program} {w : World} {K : PySem.W.Frag} {mg : Str → Option Value} {base : Heap}
theorem ok_take_opened {D : Addr} {es : Array DictEntry} {n : Nat} (S : Stands K mg "take_opened" s_take_opened ["word", "which", "wanted", "values"]) (BH : Bhd w K mg D es n) (H_want : DefOk P w K mg base CX0 1 "want" ["wanted", "behind"] (spWant K))
    (H_is_written_integer : DefOk P w K mg base CX0 1 "is_written_integer" ["word"] spWrit) (H_take_term : DefOk P w K mg base CX0 3 "take_term" ["word", "which", "wanted", "values"] (spTake K "term")) :
    DefOk P w K mg base CX0 4 "take_opened" ["word", "which", "wanted", "values"] (spTake K "opened") := by
  have c_WANTED_BEHIND := BH.at_
  have c_WANTED_BEHIND_r : RelV (.ref D) (Value.ref D) := rfl
  obtain ⟨f, fd, F, hm, hb⟩ := S
  obtain ⟨f_want, fd_want, G_want, m_want, k_want, b_want⟩ := H_want
  obtain ⟨f_is_written_integer, fd_is_written_integer, G_is_written_integer, m_is_written_integer, k_is_written_integer, b_is_written_integer⟩ := H_is_written_integer
  obtain ⟨f_take_term, fd_take_term, G_take_term, m_take_term, k_take_term, b_take_term⟩ := H_take_term
  refine ⟨f, fd, ?_, hm, F.kp, hb⟩
  have nd := sc_take_opened.nd
  refine F.ok sc_take_opened (fun vs H Q E h => ?_) (fun cdv A outer s0 H vs Q E hr h => ?_)
  · obtain ⟨x, c, W, U, ws, ws', xs, xs', os, _, rfl, _⟩ := h
    rfl
  obtain ⟨x, c, W, U, ws, ws', xs, xs', os, hc, rfl, hl, R, hf, ht, hi, q⟩ := h
  have hf' := hf.ge (by decide)
  obtain ⟨cs, hW, lW⟩ := R.listW
  obtain ⟨us, hU, lU⟩ := R.listU
  refine ⟨_, (pss_cons (ps_if (pt_cmpR op_in_seq (pv 0) (pe_tup (pa_cons pe_str (pa_cons pe_str (pa_cons pe_str (pa_cons pe_str pa_nil))))) (by rfl)) (pss_cons (ps_expr (pe_call G_want (hr.mono (by decide)) rfl m_want k_want b_want .nil pass0 (pa_cons (pv 2) (pa_cons (pe_ix ix_kdict (pe_glob rfl c_WANTED_BEHIND c_WANTED_BEHIND_r) (pv 0) (fun _ _ => rfl)) pa_nil))))
      (pss_one (ps_ret pe_bl))) pss_nil)
      (pss_cons (ps_expr (pe_bm PySem.F.plainAttrs_list PySem.F.slot_list_append PySem.F.type_list_append mt_append (pv 2) (pa_cons (pe_tup (pa_cons pe_str (pa_cons (pe_ifExp (pt_val (pe_call G_is_written_integer (hr.mono (by decide)) rfl m_is_written_integer k_is_written_integer b_is_written_integer .nil pass0 (pa_cons (pv 0) pa_nil))) pe_str pe_str) pa_nil))) pa_nil)))
      (pss_one (ps_ret (pe_call G_take_term (hr.mono (by decide)) rfl m_take_term k_take_term b_take_term .nil pass0 (pa_cons (pv 0) (pa_cons pe_str (pa_cons (pv 2) (pa_cons (pv 3) pa_nil))))))))), ?_⟩
  have hlen : 1001000 < sizeLine := by decide +kernel
  walk_at "rd"
  intro T1 hT1
  have S1 := same_new hT1 (.tup [V.str "fun", V.str "let", V.str "rec", V.str "if"])
  refine ⟨T1, _, rfl, .inr (SqT.of upd_same), rfl, rfl, _, rfl, ?_⟩
  cases ht with
  | oFun =>
    refine ifT (by decide +kernel) ?_
    walk_at "rd"
    obtain ⟨ba, bv, bn, bt, bw⟩ := BH.fn ("fun", bhFun) (by simp)
    refine ⟨D, _, .ref ba, rfl, rfl, ⟨es, n, _, BH.kd.at_, BH.kd.lit, bn, rfl⟩, ?_⟩
    walk_at "rd"
    have hbv := (bw H).1
    refine ⟨W, ba, cs, bv, rfl, S1 _ _ hW, bt _, by simp [bhFun] at hbv; omega, fun H2 k2 h2 => ?_⟩
    walk_at "rd"
    refine q H2 ?_
    exact ((R.same S1).wantK (S1 _ _ hW) k2 h2 (bw _)).mv (S1.keepA.trans (k2.keepA (by simp)))
  | oLet =>
    refine ifT (by decide +kernel) ?_
    walk_at "rd"
    obtain ⟨ba, bv, bn, bt, bw⟩ := BH.fn ("let", bhLet) (by simp)
    refine ⟨D, _, .ref ba, rfl, rfl, ⟨es, n, _, BH.kd.at_, BH.kd.lit, bn, rfl⟩, ?_⟩
    walk_at "rd"
    have hbv := (bw H).1
    refine ⟨W, ba, cs, bv, rfl, S1 _ _ hW, bt _, by simp [bhLet] at hbv; omega, fun H2 k2 h2 => ?_⟩
    walk_at "rd"
    refine q H2 ?_
    exact ((R.same S1).wantK (S1 _ _ hW) k2 h2 (bw _)).mv (S1.keepA.trans (k2.keepA (by simp)))
  | oRec =>
    refine ifT (by decide +kernel) ?_
    walk_at "rd"
    obtain ⟨ba, bv, bn, bt, bw⟩ := BH.fn ("rec", bhRec) (by simp)
    refine ⟨D, _, .ref ba, rfl, rfl, ⟨es, n, _, BH.kd.at_, BH.kd.lit, bn, rfl⟩, ?_⟩
    walk_at "rd"
    have hbv := (bw H).1
    refine ⟨W, ba, cs, bv, rfl, S1 _ _ hW, bt _, by simp [bhRec] at hbv; omega, fun H2 k2 h2 => ?_⟩
    walk_at "rd"
    refine q H2 ?_
    exact ((R.same S1).wantK (S1 _ _ hW) k2 h2 (bw _)).mv (S1.keepA.trans (k2.keepA (by simp)))
  | oIf =>
    refine ifT (by decide +kernel) ?_
    walk_at "rd"
    obtain ⟨ba, bv, bn, bt, bw⟩ := BH.fn ("if", bhIf) (by simp)
    refine ⟨D, _, .ref ba, rfl, rfl, ⟨es, n, _, BH.kd.at_, BH.kd.lit, bn, rfl⟩, ?_⟩
    walk_at "rd"
    have hbv := (bw H).1
    refine ⟨W, ba, cs, bv, rfl, S1 _ _ hW, bt _, by simp [bhIf] at hbv; omega, fun H2 k2 h2 => ?_⟩
    walk_at "rd"
    refine q H2 ?_
    exact ((R.same S1).wantK (S1 _ _ hW) k2 h2 (bw _)).mv (S1.keepA.trans (k2.keepA (by simp)))
  | oTerm hT =>
    have hin : inV (V.str x) [V.str "fun", V.str "let", V.str "rec", V.str "if"] = false := by
      rw [show [V.str "fun", V.str "let", V.str "rec", V.str "if"] = (["fun", "let", "rec", "if"] : List Str).map V.str from rfl, inV_strs]
      refine decide_eq_false fun m => ?_
      simp only [List.mem_cons, List.not_mem_nil, or_false] at m
      rcases m with m | m | m | m <;> exact hT.ne (by simp) m
    refine ifF hin ?_
    walk_at "rd"
    refine ⟨.inl ⟨rfl, _, SqL.of (S1 _ _ hW)⟩, ?_⟩
    walk_at "rd"
    refine ⟨hT.num, ?_⟩
    walk_at "rd"
    cases hfl : numFlag x with
    | true =>
      rw [hfl] at hT
      refine ifT rfl ?_
      walk_at "rd"
      intro p hp
      have S2 := same_new hp (.tup [V.str "begun", V.str "of"])
      obtain ⟨R2, k2⟩ := (R.same S1).newW (S1 _ _ hW) hp (x := "begun") (y := "of") (c := .begun true) rfl rfl
      refine ⟨W, cs, _, rfl, rfl, S2 _ _ (S1 _ _ hW), by omega, ?_⟩
      walk_at "rd"
      refine ⟨x, .term, W, U, _, ws', xs, xs', os, rfl, rfl, hl, R2, .inr ⟨.inl rfl, by simp; omega⟩, .term hT, hi, fun H3 m3 => ?_⟩
      exact q H3 (Mv.after R2 (S1.keepA.trans k2) m3)
    | false =>
      rw [hfl] at hT
      refine ifF rfl ?_
      walk_at "rd"
      intro p hp
      have S2 := same_new hp (.tup [V.str "begun", V.str ""])
      obtain ⟨R2, k2⟩ := (R.same S1).newW (S1 _ _ hW) hp (x := "begun") (y := "") (c := .begun false) rfl rfl
      refine ⟨W, cs, _, rfl, rfl, S2 _ _ (S1 _ _ hW), by omega, ?_⟩
      walk_at "rd"
      refine ⟨x, .term, W, U, _, ws', xs, xs', os, rfl, rfl, hl, R2, .inr ⟨.inl rfl, by simp; omega⟩, .term hT, hi, fun H3 m3 => ?_⟩
      exact q H3 (Mv.after R2 (S1.keepA.trans k2) m3)
  | _ => (simp only [Wn.what] at hc; exact absurd hc (by decide))
end
end Vt


set_option Elab.async false
set_option linter.all false
set_option maxRecDepth 100000
set_option maxHeartbeats 4000000

namespace Vt
open PySem PySem.Spec PyProof.Rows L2 TL
theorem at1 {x y : V} {xs : List V} : atI (x :: y :: xs) 1 = some y := atI_nat (j := 1) rfl
theorem ix_last {r : List V} {v : V} : ixN (r ++ [v]).length (-1) = some r.length := by
  unfold ixN
  rw [if_neg (by decide)]
  simp
  omega
theorem set_last {r : List V} {v v' : V} : (r ++ [v]).set r.length v' = r ++ [v'] := by simp
abbrev s_take_begun : Stmt := topS 60
abbrev N_take_begun : List Str := ["word", "which", "wanted", "values"]
theorem sc_take_begun : FnScope N_take_begun ["word", "which", "wanted", "values"] (defScope s_take_begun) := ⟨rfl, rfl, rfl, by decide +kernel, rfl, by decide +kernel, by decide +kernel⟩
abbrev s_take_items : Stmt := topS 61
abbrev N_take_items : List Str := ["word", "which", "wanted", "values"]
theorem sc_take_items : FnScope N_take_items ["word", "which", "wanted", "values"] (defScope s_take_items) := ⟨rfl, rfl, rfl, by decide +kernel, rfl, by decide +kernel, by decide +kernel⟩
abbrev s_take_fields : Stmt := topS 62
abbrev N_take_fields : List Str := ["word", "which", "wanted", "values"]
theorem sc_take_fields : FnScope N_take_fields ["word", "which", "wanted", "values"] (defScope s_take_fields) := ⟨rfl, rfl, rfl, by decide +kernel, rfl, by decide +kernel, by decide +kernel⟩
section
variable {P : Program} {w : World} {K : PySem.W.Frag} {mg : Str → Option Value} {base : Heap}
theorem ok_take_begun {D : Addr} {es : Array DictEntry} {n : Nat} (S : Stands K mg "take_begun" s_take_begun ["word", "which", "wanted", "values"]) (BH : Bhd w K mg D es n) (H_want : DefOk P w K mg base CX0 1 "want" ["wanted", "behind"] (spWant K))
    (H_take_term : DefOk P w K mg base CX0 3 "take_term" ["word", "which", "wanted", "values"] (spTake K "term")) :
    DefOk P w K mg base CX0 4 "take_begun" ["word", "which", "wanted", "values"] (spTake K "begun") := by
  have c_WANTED_BEHIND := BH.at_
  have c_WANTED_BEHIND_r : RelV (.ref D) (Value.ref D) := rfl
  obtain ⟨f, fd, F, hm, hb⟩ := S
  obtain ⟨f_want, fd_want, G_want, m_want, k_want, b_want⟩ := H_want
  obtain ⟨f_take_term, fd_take_term, G_take_term, m_take_term, k_take_term, b_take_term⟩ := H_take_term
  refine ⟨f, fd, ?_, hm, F.kp, hb⟩
  have nd := sc_take_begun.nd
  refine F.ok sc_take_begun (fun vs H Q E h => ?_) (fun cdv A outer s0 H vs Q E hr h => ?_)
  · obtain ⟨x, c, W, U, ws, ws', xs, xs', os, _, rfl, _⟩ := h
    rfl
  obtain ⟨x, c, W, U, ws, ws', xs, xs', os, hc, rfl, hl, R, hf, ht, hi, q⟩ := h
  have hf' := hf.ge (by decide)
  obtain ⟨cs, hW, lW⟩ := R.listW
  refine ⟨_, (pss_cons (ps_if (PW.pt (pw_and (pt_cmpR op_eq (pv 0) pe_str (nomark _)) (pw_and1 (pt_cmpR op_eq (pv 1) pe_str (nomark _))))) (pss_cons (ps_asg (pe_ix ix_tup (pe_ix ix_list (pv 3) (pe_un un_neg pe_int) (fun _ _ => rfl)) pe_int (fun _ _ => rfl)) (pg_sub (pv 3) (pe_un un_neg pe_int) set_list))
      (pss_cons (ps_expr (pe_call G_want (hr.mono (by decide)) rfl m_want k_want b_want .nil pass0 (pa_cons (pv 2) (pa_cons (pe_ix ix_kdict (pe_glob rfl c_WANTED_BEHIND c_WANTED_BEHIND_r) pe_str (fun _ _ => rfl)) pa_nil))))
      (pss_one (ps_ret pe_bl)))) pss_nil)
      (C8.pss_cut (ps_if (pt_cmpR op_eq (pv 0) pe_str (nomark _)) (pss_one (ps_asg (pe_lst (pa_cons (pe_ix ix_list (pv 3) (pe_un un_neg pe_int) (fun _ _ => rfl)) pa_nil)) (pg_sub (pv 3) (pe_un un_neg pe_int) set_list))) pss_nil)
      (pss_cons (ps_if (pt_cmpR op_in_seq (pv 0) (pe_tup (pa_cons pe_str (pa_cons pe_str (pa_cons pe_str pa_nil)))) (by rfl)) (pss_cons (ps_expr (pe_call G_want (hr.mono (by decide)) rfl m_want k_want b_want .nil pass0 (pa_cons (pv 2) (pa_cons (pe_ix ix_kdict (pe_glob rfl c_WANTED_BEHIND c_WANTED_BEHIND_r) (pv 0) (fun _ _ => rfl)) pa_nil))))
      (pss_one (ps_ret pe_bl))) pss_nil)
      (pss_cons (ps_expr (pe_call G_want (hr.mono (by decide)) rfl m_want k_want b_want .nil pass0 (pa_cons (pv 2) (pa_cons (pe_ix ix_kdict (pe_glob rfl c_WANTED_BEHIND c_WANTED_BEHIND_r) pe_str (fun _ _ => rfl)) pa_nil))))
      (pss_one (ps_ret (pe_call G_take_term (hr.mono (by decide)) rfl m_take_term k_take_term b_take_term .nil pass0 (pa_cons (pv 0) (pa_cons pe_str (pa_cons (pv 2) (pa_cons (pv 3) pa_nil))))))))))), ?_⟩
  have hlen : 1001000 < sizeLine := by decide +kernel
  cases ht with
  | @bOf k _ V0 =>
    obtain ⟨r, v, hU, hT, lr⟩ := R.top
    obtain ⟨a, rfl⟩ := hT.ref
    have hx : SqT K H a [.str "int", .int k] := by cases hT; assumption
    walk_at "rd"
    refine ⟨U, _, _, _, rfl, rfl, SqL.of hU, at_last, ?_⟩
    walk_at "rd"
    refine ⟨U, _, -1, r.length, rfl, rfl, hU, ix_last, ?_⟩
    rw [set_last]
    have k1 : KeepA [U] H (upd H U (.lst (r ++ [V.int k]))) := KeepA.wr (by simp)
    have R1 := R.topU (x := .num k) hU k1 upd_same fun z => .num z
    have hW1 := k1 W _ (by simp [R.ne]) hW
    generalize upd H U (.lst (r ++ [V.int k])) = H1 at *
    walk_at "rd"
    obtain ⟨ba, bv, bn, bt, bw⟩ := BH.fn ("of", bhOf) (by simp)
    refine ⟨D, _, .ref ba, rfl, rfl, ⟨es, n, _, BH.kd.at_, BH.kd.lit, bn, rfl⟩, ?_⟩
    walk_at "rd"
    have hbv := (bw fun _ => none).1
    refine ⟨W, ba, cs, bv, rfl, hW1, bt _, by simp [bhOf] at hbv; omega, fun H2 k2 h2 => ?_⟩
    walk_at "rd"
    exact q H2 (Mv.after R1 (k1.mono (by simp)) ((R1.wantK hW1 k2 h2 (bw _)).mv (k2.keepA (by simp))))
  | @bComma o t _ V0 =>
    obtain ⟨r, v, hU, hT, lr⟩ := R.top
    walk_at "rd"
    refine ifF rfl ?_
    refine ifF rfl ?_
    refine ⟨fun σ' X' => σ' = L2.start N_take_begun [V.str ",", V.str (Wn.begun o).which, V.ref W, V.ref U] ∧ Mv K W U os H X' ws (.items [t] :: V0), ?_, ?_⟩
    · walk_at "rd"
      refine ⟨U, _, _, _, rfl, rfl, SqL.of hU, at_last, ?_⟩
      walk_at "rd"
      intro p hp
      have S1 := same_new hp (.lst [v])
      walk_at "rd"
      refine ⟨U, _, -1, r.length, rfl, rfl, S1 _ _ hU, ix_last, ?_⟩
      rw [set_last]
      exact ⟨rfl, R.newI hU hp⟩
    · rintro σ' X' ⟨rfl, o1, R1, k1, s1⟩
      obtain ⟨cs, hW, lW⟩ := R1.listW
      walk_at "rd"
      intro T1 hT1
      have S1 := same_new hT1 (.tup [V.str ",", V.str ".", V.str "with"])
      refine ⟨T1, _, rfl, .inr (SqT.of upd_same), rfl, rfl, _, rfl, ?_⟩
      refine ifT (by decide +kernel) ?_
      walk_at "rd"
      obtain ⟨ba, bv, bn, bt, bw⟩ := BH.fn (",", bhComma) (by simp)
      refine ⟨D, _, .ref ba, rfl, rfl, ⟨es, n, _, BH.kd.at_, BH.kd.lit, bn, rfl⟩, ?_⟩
      walk_at "rd"
      have hbv := (bw fun _ => none).1
      refine ⟨W, ba, cs, bv, rfl, S1 _ _ hW, bt _, by simp [bhComma, bhApp] at hbv; omega, fun H2 k2 h2 => ?_⟩
      walk_at "rd"
      exact q H2 (Mv.chain R1 k1 s1 (((R1.same S1).wantK (S1 _ _ hW) k2 h2 (bw _)).mv (S1.keepA.trans (k2.keepA (by simp)))))
  | @bDot o _ _ =>
    walk_at "rd"
    refine ifF rfl ?_
    refine ifF rfl ?_
    refine ⟨fun σ' X' => σ' = L2.start N_take_begun [V.str ".", V.str (Wn.begun o).which, V.ref W, V.ref U] ∧ X' = H, ?_, ?_⟩
    · walk_at "rd"
      exact rfl
    · rintro σ' X' ⟨rfl, rfl⟩
      walk_at "rd"
      intro T1 hT1
      have S1 := same_new hT1 (.tup [V.str ",", V.str ".", V.str "with"])
      refine ⟨T1, _, rfl, .inr (SqT.of upd_same), rfl, rfl, _, rfl, ?_⟩
      refine ifT (by decide +kernel) ?_
      walk_at "rd"
      obtain ⟨ba, bv, bn, bt, bw⟩ := BH.fn (".", bhDot) (by simp)
      refine ⟨D, _, .ref ba, rfl, rfl, ⟨es, n, _, BH.kd.at_, BH.kd.lit, bn, rfl⟩, ?_⟩
      walk_at "rd"
      have hbv := (bw fun _ => none).1
      refine ⟨W, ba, cs, bv, rfl, S1 _ _ hW, bt _, by simp [bhDot, bhApp] at hbv; omega, fun H2 k2 h2 => ?_⟩
      walk_at "rd"
      exact q H2 (((R.same S1).wantK (S1 _ _ hW) k2 h2 (bw _)).mv (S1.keepA.trans (k2.keepA (by simp))))
  | @bWith o _ _ =>
    walk_at "rd"
    refine ifF rfl ?_
    refine ifF rfl ?_
    refine ⟨fun σ' X' => σ' = L2.start N_take_begun [V.str "with", V.str (Wn.begun o).which, V.ref W, V.ref U] ∧ X' = H, ?_, ?_⟩
    · walk_at "rd"
      exact rfl
    · rintro σ' X' ⟨rfl, rfl⟩
      walk_at "rd"
      intro T1 hT1
      have S1 := same_new hT1 (.tup [V.str ",", V.str ".", V.str "with"])
      refine ⟨T1, _, rfl, .inr (SqT.of upd_same), rfl, rfl, _, rfl, ?_⟩
      refine ifT (by decide +kernel) ?_
      walk_at "rd"
      obtain ⟨ba, bv, bn, bt, bw⟩ := BH.fn ("with", bhWith) (by simp)
      refine ⟨D, _, .ref ba, rfl, rfl, ⟨es, n, _, BH.kd.at_, BH.kd.lit, bn, rfl⟩, ?_⟩
      walk_at "rd"
      have hbv := (bw fun _ => none).1
      refine ⟨W, ba, cs, bv, rfl, S1 _ _ hW, bt _, by simp [bhWith, bhApp] at hbv; omega, fun H2 k2 h2 => ?_⟩
      walk_at "rd"
      exact q H2 (((R.same S1).wantK (S1 _ _ hW) k2 h2 (bw _)).mv (S1.keepA.trans (k2.keepA (by simp))))
  | @bTerm o _ _ _ _ _ hT =>
    walk_at "rd"
    refine ifF (eqF (hT.ne (by simp))) ?_
    refine ifF rfl ?_
    refine ⟨fun σ' X' => σ' = L2.start N_take_begun [V.str x, V.str (Wn.begun o).which, V.ref W, V.ref U] ∧ X' = H, ?_, ?_⟩
    · walk_at "rd"
      refine ifF (eqF (hT.ne (by simp))) ?_
      exact ⟨rfl, rfl⟩
    · rintro σ' X' ⟨rfl, rfl⟩
      walk_at "rd"
      intro T1 hT1
      have S1 := same_new hT1 (.tup [V.str ",", V.str ".", V.str "with"])
      refine ⟨T1, _, rfl, .inr (SqT.of upd_same), rfl, rfl, _, rfl, ?_⟩
      have hin : inV (V.str x) [V.str ",", V.str ".", V.str "with"] = false := by
        rw [show [V.str ",", V.str ".", V.str "with"] = ([",", ".", "with"] : List Str).map V.str from rfl, inV_strs]
        refine decide_eq_false fun m => ?_
        simp only [List.mem_cons, List.not_mem_nil, or_false] at m
        rcases m with m | m | m <;> exact hT.ne (by simp) m
      refine ifF hin ?_
      walk_at "rd"
      obtain ⟨ba, bv, bn, bt, bw⟩ := BH.fn ("app", bhApp) (by simp)
      refine ⟨D, _, .ref ba, rfl, rfl, ⟨es, n, _, BH.kd.at_, BH.kd.lit, bn, rfl⟩, ?_⟩
      walk_at "rd"
      have hbv := (bw fun _ => none).1
      refine ⟨W, ba, cs, bv, rfl, S1 _ _ hW, bt _, by simp [bhApp, bhApp] at hbv; omega, fun H2 k2 h2 => ?_⟩
      walk_at "rd"
      have R2 := (R.same S1).wantK (S1 _ _ hW) k2 h2 (bw _)
      refine ⟨x, .term, W, U, _, _, _, _, os, rfl, rfl, hl, R2, .inr ⟨.inl rfl, by simp [bhApp]; omega⟩, .term hT, hi, fun H3 m3 => ?_⟩
      exact q H3 (Mv.after R2 (S1.keepA.trans (k2.keepA (by simp))) m3)
  | _ => (simp only [Wn.what] at hc; exact absurd hc (by decide))
theorem ok_take_items {D : Addr} {es : Array DictEntry} {n : Nat} (S : Stands K mg "take_items" s_take_items ["word", "which", "wanted", "values"]) (BH : Bhd w K mg D es n) (H_want : DefOk P w K mg base CX0 1 "want" ["wanted", "behind"] (spWant K)) :
    DefOk P w K mg base CX0 4 "take_items" ["word", "which", "wanted", "values"] (spTake K "items") := by
  have c_WANTED_BEHIND := BH.at_
  have c_WANTED_BEHIND_r : RelV (.ref D) (Value.ref D) := rfl
  obtain ⟨f, fd, F, hm, hb⟩ := S
  obtain ⟨f_want, fd_want, G_want, m_want, k_want, b_want⟩ := H_want
  refine ⟨f, fd, ?_, hm, F.kp, hb⟩
  have nd := sc_take_items.nd
  refine F.ok sc_take_items (fun vs H Q E h => ?_) (fun cdv A outer s0 H vs Q E hr h => ?_)
  · obtain ⟨x, c, W, U, ws, ws', xs, xs', os, _, rfl, _⟩ := h
    rfl
  obtain ⟨x, c, W, U, ws, ws', xs, xs', os, hc, rfl, hl, R, hf, ht, hi, q⟩ := h
  have hf' := hf.ge (by decide)
  obtain ⟨cs, hW, lW⟩ := R.listW
  refine ⟨_, (pss_cons (ps_expr (pe_call G_want (hr.mono (by decide)) rfl m_want k_want b_want .nil pass0 (pa_cons (pv 2) (pa_cons (pe_ifExp (pt_cmpR op_eq (pv 0) pe_str (nomark _)) (pe_ix ix_kdict (pe_glob rfl c_WANTED_BEHIND c_WANTED_BEHIND_r) pe_str (fun _ _ => rfl)) (pe_tup (pa_cons (pe_tup (pa_cons pe_str (pa_cons pe_str pa_nil))) pa_nil))) pa_nil))))
      (pss_one (ps_ret (pe_or (pe_cmpR op_eq (pv 0) pe_str (nomark _)) (pe_one (pe_cmpR op_eq (pv 0) pe_str (nomark _))))))), ?_⟩
  have hlen : 1001000 < sizeLine := by decide +kernel
  cases ht with
  | iComma =>
    walk_at "rd"
    obtain ⟨ba, bv, bn, bt, bw⟩ := BH.fn (",", bhComma) (by simp)
    refine ⟨D, _, .ref ba, rfl, rfl, ⟨es, n, _, BH.kd.at_, BH.kd.lit, bn, rfl⟩, ?_⟩
    walk_at "rd"
    have hbv := (bw fun _ => none).1
    refine ⟨W, ba, cs, bv, rfl, hW, bt _, by simp [bhComma] at hbv; omega, fun H2 k2 h2 => ?_⟩
    walk_at "rd"
    exact q H2 ((R.wantK hW k2 h2 (bw _)).mv (k2.keepA (by simp)))
  | iEnd =>
    walk_at "rd"
    intro p hp
    have S1 := same_new hp (.tup [V.str "build", V.str "tuple"])
    walk_at "rd"
    intro p2 hp2
    have S2 := same_new hp2 (.tup [V.ref p])
    have hp1 := S2 _ _ (@upd_same H p (.tup [V.str "build", V.str "tuple"]))
    have hp22 := @upd_same (upd H p (.tup [V.str "build", V.str "tuple"])) p2 (.tup [V.ref p])
    have SS := S1.trans S2
    generalize upd (upd H p (.tup [V.str "build", V.str "tuple"])) p2 (.tup [V.ref p]) = H1 at *
    have np := R.notin hp
    walk_at "rd"
    refine ⟨W, p2, cs, [.ref p], rfl, SS _ _ hW, SqT.of hp22, by simp; omega, fun H2 k2 h2 => ?_⟩
    walk_at "rd"
    refine q H2 (((R.same SS).wantK (bh := [.build .tuple]) (SS _ _ hW) k2 h2 ?_).mv (SS.keepA.trans (k2.keepA (by simp))))
    refine ⟨rfl, fun i a b ha hb => ?_⟩
    cases i with
    | zero =>
      simp at ha hb
      subst ha
      subst hb
      exact Wnt.mk (by rw [offs_out np]; exact k2 p _ (fun z => np (by simp [z])) hp1) rfl rfl
    | succ i => simp at ha
  | _ => (simp only [Wn.what] at hc; exact absurd hc (by decide))
theorem ok_take_fields {D : Addr} {es : Array DictEntry} {n : Nat} (S : Stands K mg "take_fields" s_take_fields ["word", "which", "wanted", "values"]) (BH : Bhd w K mg D es n) (H_want : DefOk P w K mg base CX0 1 "want" ["wanted", "behind"] (spWant K))
    (H_take_name : DefOk P w K mg base CX0 3 "take_name" ["word", "which", "wanted", "values"] (spTake K "name")) :
    DefOk P w K mg base CX0 4 "take_fields" ["word", "which", "wanted", "values"] (spTake K "fields") := by
  have c_WANTED_BEHIND := BH.at_
  have c_WANTED_BEHIND_r : RelV (.ref D) (Value.ref D) := rfl
  obtain ⟨f, fd, F, hm, hb⟩ := S
  obtain ⟨f_want, fd_want, G_want, m_want, k_want, b_want⟩ := H_want
  obtain ⟨f_take_name, fd_take_name, G_take_name, m_take_name, k_take_name, b_take_name⟩ := H_take_name
  refine ⟨f, fd, ?_, hm, F.kp, hb⟩
  have nd := sc_take_fields.nd
  refine F.ok sc_take_fields (fun vs H Q E h => ?_) (fun cdv A outer s0 H vs Q E hr h => ?_)
  · obtain ⟨x, c, W, U, ws, ws', xs, xs', os, _, rfl, _⟩ := h
    rfl
  obtain ⟨x, c, W, U, ws, ws', xs, xs', os, hc, rfl, hl, R, hf, ht, hi, q⟩ := h
  have hf' := hf.ge (by decide)
  obtain ⟨cs, hW, lW⟩ := R.listW
  refine ⟨_, (pss_cons (ps_if (pt_cmpR op_eq (pv 0) pe_str (nomark _)) (pss_cons (ps_expr (pe_bm PySem.F.plainAttrs_list PySem.F.slot_list_append PySem.F.type_list_append mt_append (pv 2) (pa_cons (pe_tup (pa_cons pe_str (pa_cons pe_str pa_nil))) pa_nil)))
      (pss_one (ps_ret pe_bl))) pss_nil)
      (pss_cons (ps_expr (pe_call G_want (hr.mono (by decide)) rfl m_want k_want b_want .nil pass0 (pa_cons (pv 2) (pa_cons (pe_ix ix_kdict (pe_glob rfl c_WANTED_BEHIND c_WANTED_BEHIND_r) pe_str (fun _ _ => rfl)) pa_nil))))
      (pss_cons (ps_if (pt_cmpR op_eq (pv 1) pe_str (nomark _)) (pss_one (ps_ret (pe_call G_take_name (hr.mono (by decide)) rfl m_take_name k_take_name b_take_name .nil pass0 (pa_cons (pv 0) (pa_cons pe_str (pa_cons (pv 2) (pa_cons (pv 3) pa_nil))))))) pss_nil)
      (pss_cons (ps_expr (pe_bm PySem.F.plainAttrs_list PySem.F.slot_list_append PySem.F.type_list_append mt_append (pv 2) (pa_cons (pe_tup (pa_cons pe_str (pa_cons pe_str pa_nil))) pa_nil)))
      (pss_one (ps_ret (pe_cmpR op_eq (pv 0) pe_str (nomark _)))))))), ?_⟩
  have hlen : 1001000 < sizeLine := by decide +kernel
  cases ht with
  | fEnd =>
    walk_at "rd"
    refine ⟨.inl ⟨rfl, _, SqL.of hW⟩, ?_⟩
    walk_at "rd"
    intro p hp
    have S1 := same_new hp (.tup [V.str "build", V.str "record"])
    refine ⟨W, cs, _, rfl, rfl, S1 _ _ hW, by omega, ?_⟩
    obtain ⟨R2, k2⟩ := R.newW hW hp (x := "build") (y := "record") (c := .build .record) rfl rfl
    walk_at "rd"
    exact q _ (R2.mv k2)
  | fName hn =>
    walk_at "rd"
    refine ifF (eqF (hn.ne (.inl (by decide +kernel)))) ?_
    walk_at "rd"
    obtain ⟨ba, bv, bn, bt, bw⟩ := BH.fn ("=", bhEq) (by simp)
    refine ⟨D, _, .ref ba, rfl, rfl, ⟨es, n, _, BH.kd.at_, BH.kd.lit, bn, rfl⟩, ?_⟩
    walk_at "rd"
    have hbv := (bw fun _ => none).1
    refine ⟨W, ba, cs, bv, rfl, hW, bt _, by simp [bhEq] at hbv; omega, fun H2 k2 h2 => ?_⟩
    walk_at "rd"
    have R2 := R.wantK hW k2 h2 (bw _)
    refine ⟨x, .name, W, U, _, _, _, _, os, rfl, rfl, hl, R2, .inr ⟨.inr rfl, by simp [bhEq]; omega⟩, .name hn, hi, fun H3 m3 => ?_⟩
    exact q H3 (Mv.after R2 (k2.keepA (by simp)) m3)
  | fComma =>
    walk_at "rd"
    obtain ⟨ba, bv, bn, bt, bw⟩ := BH.fn ("=", bhEq) (by simp)
    refine ⟨D, _, .ref ba, rfl, rfl, ⟨es, n, _, BH.kd.at_, BH.kd.lit, bn, rfl⟩, ?_⟩
    walk_at "rd"
    have hbv := (bw fun _ => none).1
    refine ⟨W, ba, cs, bv, rfl, hW, bt _, by simp [bhEq] at hbv; omega, fun H2 k2 h2 => ?_⟩
    walk_at "rd"
    have R2 := R.wantK hW k2 h2 (bw _)
    obtain ⟨cs2, hW2, lW2⟩ := R2.listW
    refine ⟨.inl ⟨rfl, _, SqL.of hW2⟩, ?_⟩
    walk_at "rd"
    intro p hp
    have S1 := same_new hp (.tup [V.str "name", V.str ""])
    refine ⟨W, cs2, _, rfl, rfl, S1 _ _ hW2, by simp [bhEq] at lW2; omega, ?_⟩
    obtain ⟨R3, k3⟩ := R2.newW hW2 hp (x := "name") (y := "") (c := .name) rfl rfl
    walk_at "rd"
    exact q _ (Mv.after R2 (k2.keepA (by simp)) (R3.mv k3))
  | _ => (simp only [Wn.what] at hc; exact absurd hc (by decide))
end
end Vt


set_option Elab.async false
set_option linter.all false
set_option maxRecDepth 100000
set_option maxHeartbeats 4000000
namespace Vt
open PySem PySem.Spec PyProof.Rows L2
/-! ### del xs[-m:] -/
theorem keep_take {p : Nat → Bool} {a : Nat} : ∀ (its : List Value) (j : Nat), (∀ k, k < j + its.length → p k = decide (a ≤ k)) →
    (its.zipIdx j).filterMap (fun x => if p x.snd = true then none else some x.fst) = its.take (a - j)
  | [], j, _ => by simp
  | x :: r, j, h => by
    rw [List.zipIdx_cons, List.filterMap_cons]
    have ih := keep_take r (j + 1) fun k hk => h k (by simp; omega)
    have hj := h j (by simp)
    by_cases q : a ≤ j
    · rw [hj, decide_eq_true q, if_pos rfl]
      show List.filterMap _ _ = _
      rw [ih, show a - j = 0 by omega, show a - (j + 1) = 0 by omega]
      rfl
    · rw [hj, decide_eq_false q, if_neg Bool.false_ne_true]
      show x :: List.filterMap _ _ = _
      rw [ih, show a - j = (a - (j + 1)) + 1 by omega]
      rfl
theorem sel_tail {a n k : Nat} (h : k < n) : (if (1 : Int) > 0 then (decide ((a : Int) ≤ (k : Nat)) && decide (((k : Nat) : Int) < (n : Int)) && (((k : Nat) : Int) - (a : Int)) % 1 == 0) else (decide ((n : Int) < (k : Nat)) && decide (((k : Nat) : Int) ≤ (a : Int)) && ((a : Int) - ((k : Nat) : Int)) % (-1) == 0)) = decide (a ≤ k) := by
  rw [if_pos (by decide)]
  have e : (((k : Nat) : Int) - (a : Int)) % 1 = 0 := Int.emod_one _
  rw [e]
  by_cases q : a ≤ k
  · rw [decide_eq_true q, decide_eq_true (by omega), decide_eq_true (by omega)]
    rfl
  · rw [decide_eq_false q, decide_eq_false (by omega)]
    rfl
section
variable {prog : Program} {w : World} {A : Around} {E : Value → Shared → Prop} {s : Shared}
theorem bounds_tail {m n : Nat} (h1 : 1 ≤ m) (h2 : m ≤ n) : sliceBounds (some (-(m : Int))) none none n = (((n - m : Nat) : Int), (n : Int), 1) := by
  simp only [sliceBounds, Option.getD_none]
  have h3 : -(m : Int) < 0 := by omega
  simp only [h3, if_true, show (1 : Int) > 0 by decide]
  congr 1
  omega
set_option maxRecDepth 100000 in
theorem delItem_tail {pins : List (Addr × Obj)} {X : Cx} {σ : L2.St} {H : Hp} {l sl : Addr} {xs : List V} {vl : Value} {m : Nat} {Q : Unit → Shared → Prop} (I : Inv X pins σ H s) (hH : H l = some (.lst xs))
    (hs : s.heap.IsSliceOf sl vl .none .none) (pl : IsPart vl (some (-(m : Int)))) (h1 : 1 ≤ m) (h2 : m ≤ xs.length) (h : ∀ s', Inv X pins σ (upd H l (.lst (xs.take (xs.length - m)))) s' → Q () s') :
    wpAny (model X.prog X.w) X.A (delItem (.ref l) (.ref sl)) Q X.xe s := by
  obtain ⟨z, its, n, r, hlen, e⟩ := I.lstM hH
  have hl : s.heap.IsList l its.toArray := PySem.IsL.isList e
  have hn : its.toArray.size = xs.length := by rw [List.size_toArray]; exact hlen.symm
  obtain ⟨os, hos, hcs, hds⟩ := id hs
  have hTs : s.TypeIs (.ref sl) "slice" := ⟨os, hos, hcs⟩
  have hstep : ¬ ((rawPart none == rawInt 0) = true) := Bool.false_ne_true
  have hsz : its.toArray.size ≤ sizeLine := by rw [hn]; exact z
  unfold delItem
  refine wpAny_holding ?_
  refine wpAny_bind (wpAny_sequenceKey hl.typeIs (by decide) ?_)
  refine wpAny_bind (wpAny_callSpecial?_slot (name := Str.ofString "__delitem__") hl.typeIs F.slot_list_delitem
    (wpAny_call_entry F.slot_list_delitem hl.typeIs F.entry_list_delitem ?_ (F.args_list_delitem_2 _ _)))
  show wpAny _ _ (Builtin.List.listSubscript? (.ref sl) >>= _) _ _ s
  refine wpAny_bind ?_
  unfold Builtin.List.listSubscript?
  refine wpAny_bind (wpAny_specialOf hTs slice_no_index ?_)
  simp only [Option.isNone_none, if_true]
  refine wpAny_pure ?_
  show wpAny _ _ (typeOf (.ref sl) >>= _) _ _ s
  refine wpAny_bind (wpAny_typeOf hTs ?_)
  first
    | rw [if_neg (by decide)]
    | refine PySem.W.KFB.if_not (by decide) ?_
  rw [listSliceParts_eq]
  refine wpAny_bind (wpAny_bind (wpAny_field hos hds (x := .none) rfl (wpAny_bind (wpAny_listPart .none ?_))))
  rw [if_neg hstep]
  refine wpAny_bind (wpAny_field hos hds (x := vl) rfl (wpAny_bind (wpAny_listPart pl ?_)))
  refine wpAny_bind (wpAny_field hos hds (x := .none) rfl (wpAny_bind (wpAny_listPart .none (wpAny_pure ?_))))
  dsimp only
  unfold Builtin.List.listItems
  refine wpAny_bind (wpAny_bind (wpAny_seqItems e rfl (wpAny_pure ?_)))
  refine wpAny_bind (wpAny_of_eq ((sliceIndices_raw (some (-(m : Int))) none none its.toArray.size (by simp)).trans (congrArg (pure : Int × Int × Int → Sem (Int × Int × Int)) (bounds_tail h1 (by rw [hn]; exact h2)))) ?_)
  dsimp only
  refine wpAny_bind (wpAny_rule ?_)
  have hf : (List.filterMap (fun x => if (if (1 : Int) > 0 then (decide (((its.toArray.size - m : Nat) : Int) ≤ ((x : Value × Nat).snd : Nat)) && decide ((x.snd : Int) < (its.toArray.size : Int)) && ((x.snd : Int) - ((its.toArray.size - m : Nat) : Int)) % 1 == 0)
      else (decide ((its.toArray.size : Int) < (x.snd : Nat)) && decide ((x.snd : Int) ≤ ((its.toArray.size - m : Nat) : Int)) && (((its.toArray.size - m : Nat) : Int) - (x.snd : Int)) % (-1) == 0)) = true then none else some x.fst) its.toArray.toList.zipIdx).toArray = (its.take (xs.length - m)).toArray := by
    rw [List.toList_toArray]
    have := keep_take (a := its.toArray.size - m) its 0 fun k hk => sel_tail (a := its.toArray.size - m) (n := its.toArray.size) (k := k) (by rw [List.size_toArray]; omega)
    rw [this, hn, Nat.sub_zero]
  have hz2 : (its.take (xs.length - m)).toArray.size ≤ sizeLine + 1 := by
    rw [List.size_toArray, List.length_take]
    omega
  refine wpAny_bind (wpAny_updateSeq (hz := hsz) (_hz' := Nat.le_trans (Nat.le_of_eq (congrArg Array.size hf)) hz2) e rfl ?_)
  refine wpAny_bind (wpAny_letGo (wpAny_pure ⟨.none, rfl, wpAny_pure (h _ ?_)⟩))
  refine I.lset (its' := its.take (xs.length - m)) (t' := s.toks) hH e hf (r.take _) ?_
  rw [List.length_take]
  omega
end
def tDelT (to : TE) (tl : TO) : TS := fun D σ H => to σ H fun x H1 => tl σ H1 fun o H2 => ∃ (l : Addr) (xs : List V) (m : Nat), x = .ref l ∧ o = some (-(m : Int)) ∧ H2 l = some (.lst xs) ∧ 1 ≤ m ∧ m ≤ xs.length ∧ D.nx σ (upd H2 l (.lst (xs.take (xs.length - m))))
theorem ps_delT {X : Cx} {o lo : Expr} {to tl : TE} {tpos p2 pos : Pos} (ho : PE X o to) (hl : PE X lo tl) : PS X (.Delete [.Subscript o (.Slice (some lo) none none p2) tpos] pos) (tDelT to (tPart tl)) := by
  refine ⟨fun pins s σ H D I h => ?_⟩
  refine wpAny_Delete (wpAny_deleteEach_cons (wpAny_delete_Subscript (thn (ho.run pins s σ H _ I h) fun u s1 ⟨x, H1, I1, rx, q1⟩ => ?_)))
  refine wpAny_Slice (thn ((po_some hl).run pins s1 σ H1 _ I1 q1) fun vl s2 ⟨k, H2, I2, pl, q2⟩ => ?_)
  obtain ⟨l, xs, m, ex, eo, hH, h1, h2, q2⟩ := q2
  subst ex
  subst eo
  cases (show u = Value.ref l from rx)
  refine thn (po_none.run pins s2 σ H2 (fun o H' => o = none ∧ H' = H2) I2 ⟨rfl, rfl⟩) fun vu s3 ⟨u, H3, I3, pu, q3⟩ => ?_
  obtain ⟨rfl, rfl⟩ := q3
  cases pu
  rw [evalPart_none]
  refine wpAny_pure ?_
  have I4 : Inv X pins σ H3 { s3 with heap := s3.heap.push { cls := .type "slice", data := .fields #[vl, .none, .none] } } := I3.kept (t' := s3.toks) fun b ob q => Heap.get?_push_of_some _ q
  exact delItem_tail I4 hH (Heap.IsSliceOf.new _ vl .none .none) pl h1 h2 fun s5 I5 => wpAny_deleteEach_nil ⟨σ, _, I5, q2⟩
end Vt


set_option Elab.async false
set_option linter.all false
set_option maxRecDepth 100000
set_option maxHeartbeats 4000000

namespace Vt
open PySem PySem.Spec PyProof.Rows L2 TL
/-! ### nodes are built of values -/
theorem offs2 {as bs : List Addr} {H H' : Hp} (k : KeepA as H H') (s : ∀ b ∈ bs, b ∈ as) : Same (offs as H) (offs bs H') := fun b o e => by
  by_cases h : b ∈ as
  · rw [offs_in h] at e
    cases e
  · rw [offs_out h] at e
    rw [offs_out fun z => h (s b z)]
    exact k b o h e
/-- the last values become a node -/
theorem Rs.fold {K : PySem.W.Frag} {W U : Addr} {H H1 : Hp} {ws : List Wn} {xs xs0 : List Vl} {os os' : List Addr} {t : T} {r zs : List V} {p2 : Addr} (R : Rs K W U H ws xs os) (sub : ∀ o ∈ os', o ∈ os) (hv : Vls K (offs (W :: U :: os) H) H r xs0 os')
    (k1 : KeepA [U] H H1) (h2 : H1 p2 = none) (hU1 : ∃ y, H1 U = some y) (ht : ∀ G : Hp, Same (offs (W :: U :: os') H) G → G p2 = some (.tup zs) → Tm K G (.ref p2) t) :
    Mv K W U os H (upd (upd H1 p2 (.tup zs)) U (.lst (r.reverse ++ [.ref p2]))) ws (.tm t :: xs0) := by
  obtain ⟨c0, hW, h3⟩ := R.wt
  obtain ⟨vs0, hU, h4⟩ := R.vl
  obtain ⟨y1, hU1⟩ := hU1
  have pu : p2 ≠ U := fun z => by rw [z, hU1] at h2; cases h2
  have hp : H p2 = none := by
    cases e : H p2 with
    | none => rfl
    | some y => have := k1 p2 y (by simp [pu]) e; rw [h2] at this; cases this
  have np := R.notin hp
  have S1 := same_new h2 (.tup zs)
  have k2 : KeepA [U] (upd H1 p2 (.tup zs)) (upd (upd H1 p2 (.tup zs)) U (.lst (r.reverse ++ [.ref p2]))) := KeepA.wr (by simp)
  have kU : KeepA [U] H (upd (upd H1 p2 (.tup zs)) U (.lst (r.reverse ++ [.ref p2]))) := (k1.trans S1.keepA).trans k2
  have hP : (upd (upd H1 p2 (.tup zs)) U (.lst (r.reverse ++ [.ref p2]))) p2 = some (.tup zs) := by rw [upd_ne pu]; exact upd_same
  generalize hH3 : upd (upd H1 p2 (.tup zs)) U (.lst (r.reverse ++ [.ref p2])) = H3 at *
  have hU3 : H3 U = some (.lst (r.reverse ++ [.ref p2])) := by rw [← hH3]; exact upd_same
  have kk : KeepA (W :: U :: os) H H3 := kU.mono (by simp)
  have kk' : KeepA (W :: U :: os') H H3 := kU.mono (by simp)
  have so := offs2 (bs := W :: U :: os') kk (fun b m => by
    simp only [List.mem_cons] at m ⊢
    rcases m with m | m | m
    · exact .inl m
    · exact .inr (.inl m)
    · exact .inr (.inr (sub b m)))
  have np' : p2 ∉ W :: U :: os' := fun z => np (by
    simp only [List.mem_cons] at z ⊢
    rcases z with m | m | m
    · exact .inl m
    · exact .inr (.inl m)
    · exact .inr (.inr (sub _ m)))
  have keep : ∀ o ∈ os', H3 o = H o := fun o m => by
    obtain ⟨y, ey⟩ := hv.lst o m
    rw [ey]
    exact kU o y (by simp; exact fun z => R.nu (by rw [← z]; exact sub o m)) ey
  refine ⟨os', ⟨R.ne, fun m => R.nw (sub _ m), fun m => R.nu (sub _ m), ⟨c0, kU W _ (by simp [R.ne]) hW, h3.mono fun a b _ z => z.same so⟩, ⟨.ref p2 :: r, by rw [hU3, List.reverse_cons], .tm (ht _ kk'.offs (by rw [offs_out np']; exact hP)) (hv.mono so keep)⟩⟩, kk, fun o m => .inl (sub o m)⟩
theorem bld_fn {xs xs' : List Vl} (h : bld .fn xs = some xs') : ∃ a n V, xs = .tm a :: .nm n :: V ∧ xs' = .tm (.node (.fn n) [a]) :: V := by
  unfold bld at h
  split at h
  all_goals first | contradiction | (cases h; exact ⟨_, _, _, rfl, rfl⟩)
theorem bld_lt {xs xs' : List Vl} (h : bld .lt xs = some xs') : ∃ b a n V, xs = .tm b :: .tm a :: .nm n :: V ∧ xs' = .tm (.node (.lt n) [a, b]) :: V := by
  unfold bld at h
  split at h
  all_goals first | contradiction | (cases h; exact ⟨_, _, _, _, rfl, rfl⟩)
theorem bld_rc {xs xs' : List Vl} (h : bld .rc xs = some xs') : ∃ b a n V, xs = .tm b :: .tm a :: .nm n :: V ∧ xs' = .tm (.node (.rc n) [a, b]) :: V := by
  unfold bld at h
  split at h
  all_goals first | contradiction | (cases h; exact ⟨_, _, _, _, rfl, rfl⟩)
theorem bld_cond {xs xs' : List Vl} (h : bld .cond xs = some xs') : ∃ c b a V, xs = .tm c :: .tm b :: .tm a :: V ∧ xs' = .tm (.node .cond [a, b, c]) :: V := by
  unfold bld at h
  split at h
  all_goals first | contradiction | (cases h; exact ⟨_, _, _, _, rfl, rfl⟩)
theorem bld_part {xs xs' : List Vl} (h : bld .part xs = some xs') : ∃ a z k V, xs = .tm a :: .num z :: .num k :: V ∧ xs' = .tm (.node (.part k z) [a]) :: V := by
  unfold bld at h
  split at h
  all_goals first | contradiction | (cases h; exact ⟨_, _, _, _, rfl, rfl⟩)
theorem bld_app {xs xs' : List Vl} (h : bld .app xs = some xs') : ∃ b a V, xs = .tm b :: .tm a :: V ∧ xs' = .tm (.node .app [a, b]) :: V := by
  unfold bld at h
  split at h
  all_goals first | contradiction | (cases h; exact ⟨_, _, _, rfl, rfl⟩)
theorem bld_field {xs xs' : List Vl} (h : bld .field xs = some xs') : ∃ n a V, xs = .nm n :: .tm a :: V ∧ xs' = .tm (.node (.field n) [a]) :: V := by
  unfold bld at h
  split at h
  all_goals first | contradiction | (cases h; exact ⟨_, _, _, rfl, rfl⟩)
theorem bld_wth {xs xs' : List Vl} (h : bld .wth xs = some xs') : ∃ b n a V, xs = .tm b :: .nm n :: .tm a :: V ∧ xs' = .tm (.node (.wth n) [a, b]) :: V := by
  unfold bld at h
  split at h
  all_goals first | contradiction | (cases h; exact ⟨_, _, _, _, rfl, rfl⟩)
theorem bld_tuple {xs xs' : List Vl} (h : bld .tuple xs = some xs') : ∃ ts V, xs = .items ts :: V ∧ xs' = .tm (.node .tup ts) :: V := by
  unfold bld at h
  split at h
  all_goals first | contradiction | (cases h; exact ⟨_, _, rfl, rfl⟩)
theorem bld_record {xs xs' : List Vl} (h : bld .record xs = some xs') : ∃ ls ts V, xs = .flds ls ts :: V ∧ xs' = .tm (.node (.record ls) ts) :: V := by
  unfold bld at h
  split at h
  all_goals first | contradiction | (cases h; exact ⟨_, _, _, rfl, rfl⟩)
theorem bld_item {xs xs' : List Vl} (h : bld .item xs = some xs') : ∃ t ts V, xs = .tm t :: .items ts :: V ∧ xs' = .items (ts ++ [t]) :: V := by
  unfold bld at h
  split at h
  all_goals first | contradiction | (cases h; exact ⟨_, _, _, rfl, rfl⟩)
theorem bld_entry {xs xs' : List Vl} (h : bld .entry xs = some xs') : ∃ t n ls ts V, xs = .tm t :: .nm n :: .flds ls ts :: V ∧ xs' = .flds (ls ++ [n]) (ts ++ [t]) :: V := by
  unfold bld at h
  split at h
  all_goals first | contradiction | (cases h; exact ⟨_, _, _, _, _, rfl, rfl⟩)
theorem cut_tail {a ys : List V} {m : Nat} (h : ys.length = m) (h1 : 1 ≤ m) : cutV (a ++ ys) (some (-(m : Int))) none = ys := by
  unfold cutV
  have e1 : HT.sIx (a ++ ys).length 0 (some (-(m : Int))) = a.length := by
    show (if -(m : Int) < 0 then (-(m : Int) + (((a ++ ys).length : Nat) : Int)).toNat else _) = a.length
    rw [if_pos (by omega), List.length_append, h]
    omega
  have e2 : HT.sIx (a ++ ys).length (a ++ ys).length none = (a ++ ys).length := rfl
  rw [e1, e2, List.drop_left]
  exact List.take_of_length_le (by simp)
theorem take_tail {a ys : List V} {m : Nat} (h : ys.length = m) : (a ++ ys).take ((a ++ ys).length - m) = a := by
  rw [List.length_append, h, Nat.add_sub_cancel, List.take_left]
theorem Vls.tm_inv {K : PySem.W.Frag} {G H : Hp} {vs : List V} {t : T} {xs : List Vl} {os : List Addr} (h : Vls K G H vs (.tm t :: xs) os) : ∃ v r, vs = v :: r ∧ Tm K G v t ∧ Vls K G H r xs os := by
  cases h with
  | tm a b => exact ⟨_, _, rfl, a, b⟩
theorem Vls.nm_inv {K : PySem.W.Frag} {G H : Hp} {vs : List V} {n : Str} {xs : List Vl} {os : List Addr} (h : Vls K G H vs (.nm n :: xs) os) : ∃ r, vs = .str n :: r ∧ Vls K G H r xs os := by
  cases h with
  | nm b => exact ⟨_, rfl, b⟩
theorem Vls.num_inv {K : PySem.W.Frag} {G H : Hp} {vs : List V} {n : Int} {xs : List Vl} {os : List Addr} (h : Vls K G H vs (.num n :: xs) os) : ∃ r, vs = .int n :: r ∧ Vls K G H r xs os := by
  cases h with
  | num b => exact ⟨_, rfl, b⟩
theorem Vls.items_inv {K : PySem.W.Frag} {G H : Hp} {vs : List V} {ts : List T} {xs : List Vl} {os : List Addr} (h : Vls K G H vs (.items ts :: xs) os) : ∃ l us r os', vs = .ref l :: r ∧ os = l :: os' ∧ H l = some (.lst us) ∧ Al (Tm K G) us ts ∧ l ∉ os' ∧ Vls K G H r xs os' := by
  cases h with
  | items a b c d => exact ⟨_, _, _, _, rfl, rfl, a, b, c, d⟩
theorem Vls.flds_inv {K : PySem.W.Frag} {G H : Hp} {vs : List V} {ls : List Str} {ts : List T} {xs : List Vl} {os : List Addr} (h : Vls K G H vs (.flds ls ts :: xs) os) : ∃ (l : Addr) (bs : List Addr) (us : List V) (r : List V) (os' : List Addr), vs = .ref l :: r ∧ os = l :: os' ∧ H l = some (.lst (bs.map V.ref)) ∧ bs.length = ts.length ∧ ls.length = ts.length ∧ us.length = ts.length ∧
    (∀ (i : Nat) (b : Addr) (n : Str) (u : V), bs[i]? = some b → ls[i]? = some n → us[i]? = some u → SqT K G b [.str n, u]) ∧ (∀ (i : Nat) (u : V) (t : T), us[i]? = some u → ts[i]? = some t → Tm K G u t) ∧ l ∉ os' ∧ Vls K G H r xs os' := by
  cases h with
  | flds a b c d e f g h => exact ⟨_, _, _, _, _, rfl, rfl, a, b, c, d, e, f, g, h⟩
/-- a list among the values grows, or what is in it; the value above it is taken -/
theorem Rs.grow {K : PySem.W.Frag} {W U l : Addr} {H H3 : Hp} {ws : List Wn} {xs xs0 : List Vl} {os' : List Addr} {x : Vl} {r : List V} (R : Rs K W U H ws xs (l :: os')) (hv : Vls K (offs (W :: U :: l :: os') H) H r xs0 os') (hl : l ∉ os')
    (k : KeepA [U, l] H H3) (hU3 : H3 U = some (.lst (r.reverse ++ [.ref l]))) (hx : Vls K (offs (W :: U :: l :: os') H3) H3 r xs0 os' → Vls K (offs (W :: U :: l :: os') H3) H3 (.ref l :: r) (x :: xs0) (l :: os')) : Mv K W U (l :: os') H H3 ws (x :: xs0) := by
  obtain ⟨c0, hW, h3⟩ := R.wt
  have kk : KeepA (W :: U :: l :: os') H H3 := k.mono (by simp)
  have nwl : W ≠ l := fun z => R.nw (by simp [z])
  have keep : ∀ o ∈ os', H3 o = H o := fun o m => by
    obtain ⟨y, ey⟩ := hv.lst o m
    rw [ey]
    have n1 : o ≠ U := fun z => R.nu (by simp [← z, m])
    have n2 : o ≠ l := fun z => hl (by rw [← z]; exact m)
    exact k o y (by simp [n1, n2]) ey
  exact ⟨l :: os', ⟨R.ne, R.nw, R.nu, ⟨c0, k W _ (by simp [R.ne, nwl]) hW, h3.mono fun a b _ z => z.same kk.offs⟩, ⟨.ref l :: r, by rw [hU3, List.reverse_cons], hx (hv.mono kk.offs keep)⟩⟩, kk, fun o m => .inl m⟩
/-- of how many values the kinds are built -/
def Bd.many : Bd → Nat
  | .fn => 2 | .lt => 3 | .rc => 3 | .cond => 3 | .part => 3 | .field => 2 | .wth => 3 | .app => 2 | .tuple => 1 | .record => 1 | _ => 0
structure Bmany (w : World) (K : PySem.W.Frag) (mg : Str → Option Value) (D : Addr) (es : Array DictEntry) (n : Nat) : Prop where
  at_ : mg "BUILT_OF" = some (.ref D)
  kd : KDict K w D es n
  fn : ∀ b : Bd, b.many ≠ 0 → ∃ t, PySem.W.nsIn K D b.word = some (some (.int b.many t))
def spBuild (K : PySem.W.Frag) : Sp := fun vs H Q _ => ∃ (b : Bd) (W U : Addr) (ws : List Wn) (xs xs' : List Vl) (os : List Addr), vs = [.str b.word, .ref U] ∧ Rs K W U H ws xs os ∧ xs.length ≤ 1000200 ∧ (∀ ts, (.items ts ∈ xs ∨ ∃ ls, .flds ls ts ∈ xs) → ts.length ≤ 1000200) ∧ bld b xs = some xs' ∧ ∀ H', Mv K W U os H H' ws xs' → Q .non H'
abbrev s_build : Stmt := topS 64
abbrev N_build : List Str := ["which", "values", "item", "term", "name", "taken"]
theorem sc_build : FnScope N_build ["which", "values"] (defScope s_build) := ⟨rfl, rfl, rfl, by decide +kernel, rfl, by decide +kernel, by decide +kernel⟩
section
variable {P : Program} {w : World} {K : PySem.W.Frag} {mg : Str → Option Value} {base : Heap}
theorem ok_build {D : Addr} {es : Array DictEntry} {dn : Nat} (S : Stands K mg "build" s_build ["which", "values"]) (BM : Bmany w K mg D es dn) : DefOk P w K mg base CX0 1 "build" ["which", "values"] (spBuild K) := by
  have c_BUILT_OF := BM.at_
  have c_BUILT_OF_r : RelV (.ref D) (Value.ref D) := rfl
  obtain ⟨f, fd, F, hm, hb⟩ := S
  refine ⟨f, fd, ?_, hm, F.kp, hb⟩
  have nd := sc_build.nd
  refine F.ok sc_build (fun vs H Q E h => ?_) (fun cdv A outer s0 H vs Q E hr h => ?_)
  · obtain ⟨b, W, U, ws, xs, xs', os, rfl, _⟩ := h
    rfl
  obtain ⟨b, W, U, ws, xs, xs', os, rfl, R, hf, hfl, hb, q⟩ := h
  refine ⟨_, (pss_one (ps_if (pt_cmpR op_eq (pv 0) pe_str (nomark _)) (pss_cons (ps_set (i := 2) nd rfl (Or.inl rfl) (pe_bm0 PySem.F.plainAttrs_list PySem.F.slot_list_pop PySem.F.type_list_pop mt_pop (pv 1)))
      (pss_one (ps_expr (pe_bm PySem.F.plainAttrs_list PySem.F.slot_list_append PySem.F.type_list_append mt_append (pe_ix ix_list (pv 1) (pe_un un_neg pe_int) (fun _ _ => rfl)) (pa_cons (pv 2) pa_nil))))) (pss_one (ps_if (pt_cmpR op_eq (pv 0) pe_str (nomark _)) (pss_cons (ps_set (i := 3) nd rfl (Or.inl rfl) (pe_bm0 PySem.F.plainAttrs_list PySem.F.slot_list_pop PySem.F.type_list_pop mt_pop (pv 1)))
      (pss_cons (ps_set (i := 4) nd rfl (Or.inl rfl) (pe_bm0 PySem.F.plainAttrs_list PySem.F.slot_list_pop PySem.F.type_list_pop mt_pop (pv 1)))
      (pss_one (ps_expr (pe_bm PySem.F.plainAttrs_list PySem.F.slot_list_append PySem.F.type_list_append mt_append (pe_ix ix_list (pv 1) (pe_un un_neg pe_int) (fun _ _ => rfl)) (pa_cons (pe_tup (pa_cons (pv 4) (pa_cons (pv 3) pa_nil))) pa_nil)))))) (pss_cons (ps_set (i := 5) nd rfl (Or.inl rfl) (pe_slice sl_list (pv 1) (po_some (pe_un un_neg (pe_ix ix_kdict (pe_glob rfl c_BUILT_OF c_BUILT_OF_r) (pv 0) (fun _ _ => rfl)))) po_none))
      (pss_cons (ps_delT (pv 1) (pe_un un_neg (pe_ix ix_kdict (pe_glob rfl c_BUILT_OF c_BUILT_OF_r) (pv 0) (fun _ _ => rfl))))
      (pss_one (ps_expr (pe_bm PySem.F.plainAttrs_list PySem.F.slot_list_append PySem.F.type_list_append mt_append (pv 1) (pa_cons (pe_tup (pa_cons (pv 0) (StX.pa_star (pv 5) pa_nil))) pa_nil)))))))))), ?_⟩
  have hlen : 1001000 < sizeLine := by decide +kernel
  cases b with
  | fn =>
    obtain ⟨a, n, Vx, rfl, rfl⟩ := bld_fn hb
    obtain ⟨vsT, hU, hv⟩ := R.vl
    obtain ⟨va, vs1, rfl, ha, hv0⟩ := hv.tm_inv
    obtain ⟨vs0, rfl, hvL⟩ := hv0.nm_inv
    have hU' : H U = some (.lst (vs0.reverse ++ [.str n, va])) := by rw [hU]; simp
    have hl0 := hvL.len
    obtain ⟨bt, bn⟩ := BM.fn .fn (by decide)
    walk_at "rd"
    refine ⟨D, _, .int 2, rfl, rfl, ⟨es, dn, _, BM.kd.at_, BM.kd.lit, bn, ⟨_, rfl⟩⟩, ?_⟩
    walk_at "rd"
    refine ⟨U, _, rfl, SqL.of hU', fun p1 hp1 => ?_⟩
    have ec : cutV (vs0.reverse ++ [.str n, va]) (some (-((2 : Nat) : Int))) none = [.str n, va] := cut_tail rfl (by decide)
    have ec2 : cutV (vs0.reverse ++ [.str n, va]) (some (-2)) none = [.str n, va] := ec
    rw [ec2]
    have S1 := same_new hp1 (.lst [.str n, va])
    have hp1' := @upd_same H p1 (.lst [.str n, va])
    have hU1 := S1 _ _ hU'
    generalize upd H p1 (.lst [.str n, va]) = H1 at *
    walk_at "rd"
    refine ⟨D, _, .int 2, rfl, rfl, ⟨es, dn, _, BM.kd.at_, BM.kd.lit, bn, ⟨_, rfl⟩⟩, ?_⟩
    walk_at "rd"
    refine ⟨U, _, 2, rfl, rfl, hU1, by decide, by simp, ?_⟩
    rw [take_tail (m := 2) rfl]
    have p1u : p1 ≠ U := fun z => by rw [z, hU'] at hp1; cases hp1
    have k1 : KeepA [U] H (upd H1 U (.lst vs0.reverse)) := S1.keepA.trans (KeepA.wr (by simp))
    have hp2' : (upd H1 U (.lst vs0.reverse)) p1 = some (.lst [.str n, va]) := by rw [upd_ne p1u]; exact hp1'
    have hU2 := @upd_same H1 U (.lst vs0.reverse)
    generalize upd H1 U (.lst vs0.reverse) = H2 at *
    walk_at "rd"
    refine ⟨.inl ⟨rfl, _, SqL.of hU2⟩, ?_⟩
    walk_at "rd"
    refine ⟨p1, _, rfl, .inr (SqL.of hp2'), ?_⟩
    walk_at "rd"
    intro p2 hp2
    have S2 := same_new hp2 (.tup (.str "fun" :: [.str n, va]))
    refine ⟨U, vs0.reverse, _, rfl, rfl, S2 _ _ hU2, by rw [List.length_reverse]; simp at hf; omega, ?_⟩
    refine q _ (R.fold (zs := .str "fun" :: [.str n, va]) (fun o m => m) hvL k1 hp2 ⟨_, hU2⟩ fun G S e2 => ?_)
    exact .fn (SqT.of e2) (ha.same S)
  | lt =>
    obtain ⟨b, a, n, Vx, rfl, rfl⟩ := bld_lt hb
    obtain ⟨vsT, hU, hv⟩ := R.vl
    obtain ⟨vb, vs1, rfl, hb2, hv0⟩ := hv.tm_inv
    obtain ⟨va, vs2, rfl, ha, hv1⟩ := hv0.tm_inv
    obtain ⟨vs0, rfl, hvL⟩ := hv1.nm_inv
    have hU' : H U = some (.lst (vs0.reverse ++ [.str n, va, vb])) := by rw [hU]; simp
    have hl0 := hvL.len
    obtain ⟨bt, bn⟩ := BM.fn .lt (by decide)
    walk_at "rd"
    refine ⟨D, _, .int 3, rfl, rfl, ⟨es, dn, _, BM.kd.at_, BM.kd.lit, bn, ⟨_, rfl⟩⟩, ?_⟩
    walk_at "rd"
    refine ⟨U, _, rfl, SqL.of hU', fun p1 hp1 => ?_⟩
    have ec : cutV (vs0.reverse ++ [.str n, va, vb]) (some (-((3 : Nat) : Int))) none = [.str n, va, vb] := cut_tail rfl (by decide)
    have ec2 : cutV (vs0.reverse ++ [.str n, va, vb]) (some (-3)) none = [.str n, va, vb] := ec
    rw [ec2]
    have S1 := same_new hp1 (.lst [.str n, va, vb])
    have hp1' := @upd_same H p1 (.lst [.str n, va, vb])
    have hU1 := S1 _ _ hU'
    generalize upd H p1 (.lst [.str n, va, vb]) = H1 at *
    walk_at "rd"
    refine ⟨D, _, .int 3, rfl, rfl, ⟨es, dn, _, BM.kd.at_, BM.kd.lit, bn, ⟨_, rfl⟩⟩, ?_⟩
    walk_at "rd"
    refine ⟨U, _, 3, rfl, rfl, hU1, by decide, by simp, ?_⟩
    rw [take_tail (m := 3) rfl]
    have p1u : p1 ≠ U := fun z => by rw [z, hU'] at hp1; cases hp1
    have k1 : KeepA [U] H (upd H1 U (.lst vs0.reverse)) := S1.keepA.trans (KeepA.wr (by simp))
    have hp2' : (upd H1 U (.lst vs0.reverse)) p1 = some (.lst [.str n, va, vb]) := by rw [upd_ne p1u]; exact hp1'
    have hU2 := @upd_same H1 U (.lst vs0.reverse)
    generalize upd H1 U (.lst vs0.reverse) = H2 at *
    walk_at "rd"
    refine ⟨.inl ⟨rfl, _, SqL.of hU2⟩, ?_⟩
    walk_at "rd"
    refine ⟨p1, _, rfl, .inr (SqL.of hp2'), ?_⟩
    walk_at "rd"
    intro p2 hp2
    have S2 := same_new hp2 (.tup (.str "let" :: [.str n, va, vb]))
    refine ⟨U, vs0.reverse, _, rfl, rfl, S2 _ _ hU2, by rw [List.length_reverse]; simp at hf; omega, ?_⟩
    refine q _ (R.fold (zs := .str "let" :: [.str n, va, vb]) (fun o m => m) hvL k1 hp2 ⟨_, hU2⟩ fun G S e2 => ?_)
    exact .lt (SqT.of e2) (ha.same S) (hb2.same S)
  | rc =>
    obtain ⟨b, a, n, Vx, rfl, rfl⟩ := bld_rc hb
    obtain ⟨vsT, hU, hv⟩ := R.vl
    obtain ⟨vb, vs1, rfl, hb2, hv0⟩ := hv.tm_inv
    obtain ⟨va, vs2, rfl, ha, hv1⟩ := hv0.tm_inv
    obtain ⟨vs0, rfl, hvL⟩ := hv1.nm_inv
    have hU' : H U = some (.lst (vs0.reverse ++ [.str n, va, vb])) := by rw [hU]; simp
    have hl0 := hvL.len
    obtain ⟨bt, bn⟩ := BM.fn .rc (by decide)
    walk_at "rd"
    refine ⟨D, _, .int 3, rfl, rfl, ⟨es, dn, _, BM.kd.at_, BM.kd.lit, bn, ⟨_, rfl⟩⟩, ?_⟩
    walk_at "rd"
    refine ⟨U, _, rfl, SqL.of hU', fun p1 hp1 => ?_⟩
    have ec : cutV (vs0.reverse ++ [.str n, va, vb]) (some (-((3 : Nat) : Int))) none = [.str n, va, vb] := cut_tail rfl (by decide)
    have ec2 : cutV (vs0.reverse ++ [.str n, va, vb]) (some (-3)) none = [.str n, va, vb] := ec
    rw [ec2]
    have S1 := same_new hp1 (.lst [.str n, va, vb])
    have hp1' := @upd_same H p1 (.lst [.str n, va, vb])
    have hU1 := S1 _ _ hU'
    generalize upd H p1 (.lst [.str n, va, vb]) = H1 at *
    walk_at "rd"
    refine ⟨D, _, .int 3, rfl, rfl, ⟨es, dn, _, BM.kd.at_, BM.kd.lit, bn, ⟨_, rfl⟩⟩, ?_⟩
    walk_at "rd"
    refine ⟨U, _, 3, rfl, rfl, hU1, by decide, by simp, ?_⟩
    rw [take_tail (m := 3) rfl]
    have p1u : p1 ≠ U := fun z => by rw [z, hU'] at hp1; cases hp1
    have k1 : KeepA [U] H (upd H1 U (.lst vs0.reverse)) := S1.keepA.trans (KeepA.wr (by simp))
    have hp2' : (upd H1 U (.lst vs0.reverse)) p1 = some (.lst [.str n, va, vb]) := by rw [upd_ne p1u]; exact hp1'
    have hU2 := @upd_same H1 U (.lst vs0.reverse)
    generalize upd H1 U (.lst vs0.reverse) = H2 at *
    walk_at "rd"
    refine ⟨.inl ⟨rfl, _, SqL.of hU2⟩, ?_⟩
    walk_at "rd"
    refine ⟨p1, _, rfl, .inr (SqL.of hp2'), ?_⟩
    walk_at "rd"
    intro p2 hp2
    have S2 := same_new hp2 (.tup (.str "rec" :: [.str n, va, vb]))
    refine ⟨U, vs0.reverse, _, rfl, rfl, S2 _ _ hU2, by rw [List.length_reverse]; simp at hf; omega, ?_⟩
    refine q _ (R.fold (zs := .str "rec" :: [.str n, va, vb]) (fun o m => m) hvL k1 hp2 ⟨_, hU2⟩ fun G S e2 => ?_)
    exact .rc (SqT.of e2) (ha.same S) (hb2.same S)
  | cond =>
    obtain ⟨c, b, a, Vx, rfl, rfl⟩ := bld_cond hb
    obtain ⟨vsT, hU, hv⟩ := R.vl
    obtain ⟨vc, vs1, rfl, hc2, hv0⟩ := hv.tm_inv
    obtain ⟨vb, vs2, rfl, hb2, hv1⟩ := hv0.tm_inv
    obtain ⟨va, vs0, rfl, ha, hvL⟩ := hv1.tm_inv
    have hU' : H U = some (.lst (vs0.reverse ++ [va, vb, vc])) := by rw [hU]; simp
    have hl0 := hvL.len
    obtain ⟨bt, bn⟩ := BM.fn .cond (by decide)
    walk_at "rd"
    refine ⟨D, _, .int 3, rfl, rfl, ⟨es, dn, _, BM.kd.at_, BM.kd.lit, bn, ⟨_, rfl⟩⟩, ?_⟩
    walk_at "rd"
    refine ⟨U, _, rfl, SqL.of hU', fun p1 hp1 => ?_⟩
    have ec : cutV (vs0.reverse ++ [va, vb, vc]) (some (-((3 : Nat) : Int))) none = [va, vb, vc] := cut_tail rfl (by decide)
    have ec2 : cutV (vs0.reverse ++ [va, vb, vc]) (some (-3)) none = [va, vb, vc] := ec
    rw [ec2]
    have S1 := same_new hp1 (.lst [va, vb, vc])
    have hp1' := @upd_same H p1 (.lst [va, vb, vc])
    have hU1 := S1 _ _ hU'
    generalize upd H p1 (.lst [va, vb, vc]) = H1 at *
    walk_at "rd"
    refine ⟨D, _, .int 3, rfl, rfl, ⟨es, dn, _, BM.kd.at_, BM.kd.lit, bn, ⟨_, rfl⟩⟩, ?_⟩
    walk_at "rd"
    refine ⟨U, _, 3, rfl, rfl, hU1, by decide, by simp, ?_⟩
    rw [take_tail (m := 3) rfl]
    have p1u : p1 ≠ U := fun z => by rw [z, hU'] at hp1; cases hp1
    have k1 : KeepA [U] H (upd H1 U (.lst vs0.reverse)) := S1.keepA.trans (KeepA.wr (by simp))
    have hp2' : (upd H1 U (.lst vs0.reverse)) p1 = some (.lst [va, vb, vc]) := by rw [upd_ne p1u]; exact hp1'
    have hU2 := @upd_same H1 U (.lst vs0.reverse)
    generalize upd H1 U (.lst vs0.reverse) = H2 at *
    walk_at "rd"
    refine ⟨.inl ⟨rfl, _, SqL.of hU2⟩, ?_⟩
    walk_at "rd"
    refine ⟨p1, _, rfl, .inr (SqL.of hp2'), ?_⟩
    walk_at "rd"
    intro p2 hp2
    have S2 := same_new hp2 (.tup (.str "if" :: [va, vb, vc]))
    refine ⟨U, vs0.reverse, _, rfl, rfl, S2 _ _ hU2, by rw [List.length_reverse]; simp at hf; omega, ?_⟩
    refine q _ (R.fold (zs := .str "if" :: [va, vb, vc]) (fun o m => m) hvL k1 hp2 ⟨_, hU2⟩ fun G S e2 => ?_)
    exact .cond (SqT.of e2) (ha.same S) (hb2.same S) (hc2.same S)
  | part =>
    obtain ⟨a, z, k, Vx, rfl, rfl⟩ := bld_part hb
    obtain ⟨vsT, hU, hv⟩ := R.vl
    obtain ⟨va, vs1, rfl, ha, hv0⟩ := hv.tm_inv
    obtain ⟨vs2, rfl, hv1⟩ := hv0.num_inv
    obtain ⟨vs0, rfl, hvL⟩ := hv1.num_inv
    have hU' : H U = some (.lst (vs0.reverse ++ [.int k, .int z, va])) := by rw [hU]; simp
    have hl0 := hvL.len
    obtain ⟨bt, bn⟩ := BM.fn .part (by decide)
    walk_at "rd"
    refine ⟨D, _, .int 3, rfl, rfl, ⟨es, dn, _, BM.kd.at_, BM.kd.lit, bn, ⟨_, rfl⟩⟩, ?_⟩
    walk_at "rd"
    refine ⟨U, _, rfl, SqL.of hU', fun p1 hp1 => ?_⟩
    have ec : cutV (vs0.reverse ++ [.int k, .int z, va]) (some (-((3 : Nat) : Int))) none = [.int k, .int z, va] := cut_tail rfl (by decide)
    have ec2 : cutV (vs0.reverse ++ [.int k, .int z, va]) (some (-3)) none = [.int k, .int z, va] := ec
    rw [ec2]
    have S1 := same_new hp1 (.lst [.int k, .int z, va])
    have hp1' := @upd_same H p1 (.lst [.int k, .int z, va])
    have hU1 := S1 _ _ hU'
    generalize upd H p1 (.lst [.int k, .int z, va]) = H1 at *
    walk_at "rd"
    refine ⟨D, _, .int 3, rfl, rfl, ⟨es, dn, _, BM.kd.at_, BM.kd.lit, bn, ⟨_, rfl⟩⟩, ?_⟩
    walk_at "rd"
    refine ⟨U, _, 3, rfl, rfl, hU1, by decide, by simp, ?_⟩
    rw [take_tail (m := 3) rfl]
    have p1u : p1 ≠ U := fun z => by rw [z, hU'] at hp1; cases hp1
    have k1 : KeepA [U] H (upd H1 U (.lst vs0.reverse)) := S1.keepA.trans (KeepA.wr (by simp))
    have hp2' : (upd H1 U (.lst vs0.reverse)) p1 = some (.lst [.int k, .int z, va]) := by rw [upd_ne p1u]; exact hp1'
    have hU2 := @upd_same H1 U (.lst vs0.reverse)
    generalize upd H1 U (.lst vs0.reverse) = H2 at *
    walk_at "rd"
    refine ⟨.inl ⟨rfl, _, SqL.of hU2⟩, ?_⟩
    walk_at "rd"
    refine ⟨p1, _, rfl, .inr (SqL.of hp2'), ?_⟩
    walk_at "rd"
    intro p2 hp2
    have S2 := same_new hp2 (.tup (.str "part" :: [.int k, .int z, va]))
    refine ⟨U, vs0.reverse, _, rfl, rfl, S2 _ _ hU2, by rw [List.length_reverse]; simp at hf; omega, ?_⟩
    refine q _ (R.fold (zs := .str "part" :: [.int k, .int z, va]) (fun o m => m) hvL k1 hp2 ⟨_, hU2⟩ fun G S e2 => ?_)
    exact .part (SqT.of e2) (ha.same S)
  | app =>
    obtain ⟨b, a, Vx, rfl, rfl⟩ := bld_app hb
    obtain ⟨vsT, hU, hv⟩ := R.vl
    obtain ⟨vb, vs1, rfl, hb2, hv0⟩ := hv.tm_inv
    obtain ⟨va, vs0, rfl, ha, hvL⟩ := hv0.tm_inv
    have hU' : H U = some (.lst (vs0.reverse ++ [va, vb])) := by rw [hU]; simp
    have hl0 := hvL.len
    obtain ⟨bt, bn⟩ := BM.fn .app (by decide)
    walk_at "rd"
    refine ⟨D, _, .int 2, rfl, rfl, ⟨es, dn, _, BM.kd.at_, BM.kd.lit, bn, ⟨_, rfl⟩⟩, ?_⟩
    walk_at "rd"
    refine ⟨U, _, rfl, SqL.of hU', fun p1 hp1 => ?_⟩
    have ec : cutV (vs0.reverse ++ [va, vb]) (some (-((2 : Nat) : Int))) none = [va, vb] := cut_tail rfl (by decide)
    have ec2 : cutV (vs0.reverse ++ [va, vb]) (some (-2)) none = [va, vb] := ec
    rw [ec2]
    have S1 := same_new hp1 (.lst [va, vb])
    have hp1' := @upd_same H p1 (.lst [va, vb])
    have hU1 := S1 _ _ hU'
    generalize upd H p1 (.lst [va, vb]) = H1 at *
    walk_at "rd"
    refine ⟨D, _, .int 2, rfl, rfl, ⟨es, dn, _, BM.kd.at_, BM.kd.lit, bn, ⟨_, rfl⟩⟩, ?_⟩
    walk_at "rd"
    refine ⟨U, _, 2, rfl, rfl, hU1, by decide, by simp, ?_⟩
    rw [take_tail (m := 2) rfl]
    have p1u : p1 ≠ U := fun z => by rw [z, hU'] at hp1; cases hp1
    have k1 : KeepA [U] H (upd H1 U (.lst vs0.reverse)) := S1.keepA.trans (KeepA.wr (by simp))
    have hp2' : (upd H1 U (.lst vs0.reverse)) p1 = some (.lst [va, vb]) := by rw [upd_ne p1u]; exact hp1'
    have hU2 := @upd_same H1 U (.lst vs0.reverse)
    generalize upd H1 U (.lst vs0.reverse) = H2 at *
    walk_at "rd"
    refine ⟨.inl ⟨rfl, _, SqL.of hU2⟩, ?_⟩
    walk_at "rd"
    refine ⟨p1, _, rfl, .inr (SqL.of hp2'), ?_⟩
    walk_at "rd"
    intro p2 hp2
    have S2 := same_new hp2 (.tup (.str "app" :: [va, vb]))
    refine ⟨U, vs0.reverse, _, rfl, rfl, S2 _ _ hU2, by rw [List.length_reverse]; simp at hf; omega, ?_⟩
    refine q _ (R.fold (zs := .str "app" :: [va, vb]) (fun o m => m) hvL k1 hp2 ⟨_, hU2⟩ fun G S e2 => ?_)
    exact .app (SqT.of e2) (ha.same S) (hb2.same S)
  | field =>
    obtain ⟨n, a, Vx, rfl, rfl⟩ := bld_field hb
    obtain ⟨vsT, hU, hv⟩ := R.vl
    obtain ⟨vs1, rfl, hv0⟩ := hv.nm_inv
    obtain ⟨va, vs0, rfl, ha, hvL⟩ := hv0.tm_inv
    have hU' : H U = some (.lst (vs0.reverse ++ [va, .str n])) := by rw [hU]; simp
    have hl0 := hvL.len
    obtain ⟨bt, bn⟩ := BM.fn .field (by decide)
    walk_at "rd"
    refine ⟨D, _, .int 2, rfl, rfl, ⟨es, dn, _, BM.kd.at_, BM.kd.lit, bn, ⟨_, rfl⟩⟩, ?_⟩
    walk_at "rd"
    refine ⟨U, _, rfl, SqL.of hU', fun p1 hp1 => ?_⟩
    have ec : cutV (vs0.reverse ++ [va, .str n]) (some (-((2 : Nat) : Int))) none = [va, .str n] := cut_tail rfl (by decide)
    have ec2 : cutV (vs0.reverse ++ [va, .str n]) (some (-2)) none = [va, .str n] := ec
    rw [ec2]
    have S1 := same_new hp1 (.lst [va, .str n])
    have hp1' := @upd_same H p1 (.lst [va, .str n])
    have hU1 := S1 _ _ hU'
    generalize upd H p1 (.lst [va, .str n]) = H1 at *
    walk_at "rd"
    refine ⟨D, _, .int 2, rfl, rfl, ⟨es, dn, _, BM.kd.at_, BM.kd.lit, bn, ⟨_, rfl⟩⟩, ?_⟩
    walk_at "rd"
    refine ⟨U, _, 2, rfl, rfl, hU1, by decide, by simp, ?_⟩
    rw [take_tail (m := 2) rfl]
    have p1u : p1 ≠ U := fun z => by rw [z, hU'] at hp1; cases hp1
    have k1 : KeepA [U] H (upd H1 U (.lst vs0.reverse)) := S1.keepA.trans (KeepA.wr (by simp))
    have hp2' : (upd H1 U (.lst vs0.reverse)) p1 = some (.lst [va, .str n]) := by rw [upd_ne p1u]; exact hp1'
    have hU2 := @upd_same H1 U (.lst vs0.reverse)
    generalize upd H1 U (.lst vs0.reverse) = H2 at *
    walk_at "rd"
    refine ⟨.inl ⟨rfl, _, SqL.of hU2⟩, ?_⟩
    walk_at "rd"
    refine ⟨p1, _, rfl, .inr (SqL.of hp2'), ?_⟩
    walk_at "rd"
    intro p2 hp2
    have S2 := same_new hp2 (.tup (.str "field" :: [va, .str n]))
    refine ⟨U, vs0.reverse, _, rfl, rfl, S2 _ _ hU2, by rw [List.length_reverse]; simp at hf; omega, ?_⟩
    refine q _ (R.fold (zs := .str "field" :: [va, .str n]) (fun o m => m) hvL k1 hp2 ⟨_, hU2⟩ fun G S e2 => ?_)
    exact .field (SqT.of e2) (ha.same S)
  | wth =>
    obtain ⟨b, n, a, Vx, rfl, rfl⟩ := bld_wth hb
    obtain ⟨vsT, hU, hv⟩ := R.vl
    obtain ⟨vb, vs1, rfl, hb2, hv0⟩ := hv.tm_inv
    obtain ⟨vs2, rfl, hv1⟩ := hv0.nm_inv
    obtain ⟨va, vs0, rfl, ha, hvL⟩ := hv1.tm_inv
    have hU' : H U = some (.lst (vs0.reverse ++ [va, .str n, vb])) := by rw [hU]; simp
    have hl0 := hvL.len
    obtain ⟨bt, bn⟩ := BM.fn .wth (by decide)
    walk_at "rd"
    refine ⟨D, _, .int 3, rfl, rfl, ⟨es, dn, _, BM.kd.at_, BM.kd.lit, bn, ⟨_, rfl⟩⟩, ?_⟩
    walk_at "rd"
    refine ⟨U, _, rfl, SqL.of hU', fun p1 hp1 => ?_⟩
    have ec : cutV (vs0.reverse ++ [va, .str n, vb]) (some (-((3 : Nat) : Int))) none = [va, .str n, vb] := cut_tail rfl (by decide)
    have ec2 : cutV (vs0.reverse ++ [va, .str n, vb]) (some (-3)) none = [va, .str n, vb] := ec
    rw [ec2]
    have S1 := same_new hp1 (.lst [va, .str n, vb])
    have hp1' := @upd_same H p1 (.lst [va, .str n, vb])
    have hU1 := S1 _ _ hU'
    generalize upd H p1 (.lst [va, .str n, vb]) = H1 at *
    walk_at "rd"
    refine ⟨D, _, .int 3, rfl, rfl, ⟨es, dn, _, BM.kd.at_, BM.kd.lit, bn, ⟨_, rfl⟩⟩, ?_⟩
    walk_at "rd"
    refine ⟨U, _, 3, rfl, rfl, hU1, by decide, by simp, ?_⟩
    rw [take_tail (m := 3) rfl]
    have p1u : p1 ≠ U := fun z => by rw [z, hU'] at hp1; cases hp1
    have k1 : KeepA [U] H (upd H1 U (.lst vs0.reverse)) := S1.keepA.trans (KeepA.wr (by simp))
    have hp2' : (upd H1 U (.lst vs0.reverse)) p1 = some (.lst [va, .str n, vb]) := by rw [upd_ne p1u]; exact hp1'
    have hU2 := @upd_same H1 U (.lst vs0.reverse)
    generalize upd H1 U (.lst vs0.reverse) = H2 at *
    walk_at "rd"
    refine ⟨.inl ⟨rfl, _, SqL.of hU2⟩, ?_⟩
    walk_at "rd"
    refine ⟨p1, _, rfl, .inr (SqL.of hp2'), ?_⟩
    walk_at "rd"
    intro p2 hp2
    have S2 := same_new hp2 (.tup (.str "with" :: [va, .str n, vb]))
    refine ⟨U, vs0.reverse, _, rfl, rfl, S2 _ _ hU2, by rw [List.length_reverse]; simp at hf; omega, ?_⟩
    refine q _ (R.fold (zs := .str "with" :: [va, .str n, vb]) (fun o m => m) hvL k1 hp2 ⟨_, hU2⟩ fun G S e2 => ?_)
    exact .wth (SqT.of e2) (ha.same S) (hb2.same S)
  | tuple =>
    obtain ⟨ts, Vx, rfl, rfl⟩ := bld_tuple hb
    obtain ⟨vsT, hU, hv⟩ := R.vl
    obtain ⟨l, us, vs0, os', rfl, rfl, hl, ha, nl, hvL⟩ := hv.items_inv
    have hU' : H U = some (.lst (vs0.reverse ++ [.ref l])) := by rw [hU]; simp
    have hl0 := hvL.len
    obtain ⟨bt, bn⟩ := BM.fn .tuple (by decide)
    walk_at "rd"
    refine ⟨D, _, .int 1, rfl, rfl, ⟨es, dn, _, BM.kd.at_, BM.kd.lit, bn, ⟨_, rfl⟩⟩, ?_⟩
    walk_at "rd"
    refine ⟨U, _, rfl, SqL.of hU', fun p1 hp1 => ?_⟩
    have ec : cutV (vs0.reverse ++ [.ref l]) (some (-((1 : Nat) : Int))) none = [.ref l] := cut_tail rfl (by decide)
    have ec2 : cutV (vs0.reverse ++ [.ref l]) (some (-1)) none = [.ref l] := ec
    rw [ec2]
    have S1 := same_new hp1 (.lst [.ref l])
    have hp1' := @upd_same H p1 (.lst [.ref l])
    have hU1 := S1 _ _ hU'
    generalize upd H p1 (.lst [.ref l]) = H1 at *
    walk_at "rd"
    refine ⟨D, _, .int 1, rfl, rfl, ⟨es, dn, _, BM.kd.at_, BM.kd.lit, bn, ⟨_, rfl⟩⟩, ?_⟩
    walk_at "rd"
    refine ⟨U, _, 1, rfl, rfl, hU1, by decide, by simp, ?_⟩
    rw [take_tail (m := 1) rfl]
    have p1u : p1 ≠ U := fun z => by rw [z, hU'] at hp1; cases hp1
    have k1 : KeepA [U] H (upd H1 U (.lst vs0.reverse)) := S1.keepA.trans (KeepA.wr (by simp))
    have hp2' : (upd H1 U (.lst vs0.reverse)) p1 = some (.lst [.ref l]) := by rw [upd_ne p1u]; exact hp1'
    have hU2 := @upd_same H1 U (.lst vs0.reverse)
    generalize upd H1 U (.lst vs0.reverse) = H2 at *
    walk_at "rd"
    refine ⟨.inl ⟨rfl, _, SqL.of hU2⟩, ?_⟩
    walk_at "rd"
    refine ⟨p1, _, rfl, .inr (SqL.of hp2'), ?_⟩
    walk_at "rd"
    intro p2 hp2
    have S2 := same_new hp2 (.tup (.str "tuple" :: [.ref l]))
    refine ⟨U, vs0.reverse, _, rfl, rfl, S2 _ _ hU2, by rw [List.length_reverse]; simp at hf; omega, ?_⟩
    refine q _ (R.fold (zs := .str "tuple" :: [.ref l]) (fun o m => List.mem_cons_of_mem _ m) hvL k1 hp2 ⟨_, hU2⟩ fun G S e2 => ?_)
    have nlW : l ∉ W :: U :: os' := by
      simp only [List.mem_cons, not_or]
      exact ⟨fun z => R.nw (by simp [z]), fun z => R.nu (by simp [z]), nl⟩
    have sG : Same (offs (W :: U :: l :: os') H) G := (offs2 (fun b o _ e => e) (fun b m => by simp only [List.mem_cons] at m ⊢; rcases m with m | m | m <;> simp [m])).trans S
    have hlG : G l = some (.lst us) := S _ _ (by rw [offs_out nlW]; exact hl)
    exact .tup (SqT.of e2) (SqL.of hlG) ha.1 fun i v t a b => (ha.2 i v t a b).same sG
  | record =>
    obtain ⟨ls, ts, Vx, rfl, rfl⟩ := bld_record hb
    obtain ⟨vsT, hU, hv⟩ := R.vl
    obtain ⟨l, bs, us, vs0, os', rfl, rfl, hl, h1, h2, h3, hf1, hf2, nl, hvL⟩ := hv.flds_inv
    have hU' : H U = some (.lst (vs0.reverse ++ [.ref l])) := by rw [hU]; simp
    have hl0 := hvL.len
    obtain ⟨bt, bn⟩ := BM.fn .record (by decide)
    walk_at "rd"
    refine ⟨D, _, .int 1, rfl, rfl, ⟨es, dn, _, BM.kd.at_, BM.kd.lit, bn, ⟨_, rfl⟩⟩, ?_⟩
    walk_at "rd"
    refine ⟨U, _, rfl, SqL.of hU', fun p1 hp1 => ?_⟩
    have ec : cutV (vs0.reverse ++ [.ref l]) (some (-((1 : Nat) : Int))) none = [.ref l] := cut_tail rfl (by decide)
    have ec2 : cutV (vs0.reverse ++ [.ref l]) (some (-1)) none = [.ref l] := ec
    rw [ec2]
    have S1 := same_new hp1 (.lst [.ref l])
    have hp1' := @upd_same H p1 (.lst [.ref l])
    have hU1 := S1 _ _ hU'
    generalize upd H p1 (.lst [.ref l]) = H1 at *
    walk_at "rd"
    refine ⟨D, _, .int 1, rfl, rfl, ⟨es, dn, _, BM.kd.at_, BM.kd.lit, bn, ⟨_, rfl⟩⟩, ?_⟩
    walk_at "rd"
    refine ⟨U, _, 1, rfl, rfl, hU1, by decide, by simp, ?_⟩
    rw [take_tail (m := 1) rfl]
    have p1u : p1 ≠ U := fun z => by rw [z, hU'] at hp1; cases hp1
    have k1 : KeepA [U] H (upd H1 U (.lst vs0.reverse)) := S1.keepA.trans (KeepA.wr (by simp))
    have hp2' : (upd H1 U (.lst vs0.reverse)) p1 = some (.lst [.ref l]) := by rw [upd_ne p1u]; exact hp1'
    have hU2 := @upd_same H1 U (.lst vs0.reverse)
    generalize upd H1 U (.lst vs0.reverse) = H2 at *
    walk_at "rd"
    refine ⟨.inl ⟨rfl, _, SqL.of hU2⟩, ?_⟩
    walk_at "rd"
    refine ⟨p1, _, rfl, .inr (SqL.of hp2'), ?_⟩
    walk_at "rd"
    intro p2 hp2
    have S2 := same_new hp2 (.tup (.str "record" :: [.ref l]))
    refine ⟨U, vs0.reverse, _, rfl, rfl, S2 _ _ hU2, by rw [List.length_reverse]; simp at hf; omega, ?_⟩
    refine q _ (R.fold (zs := .str "record" :: [.ref l]) (fun o m => List.mem_cons_of_mem _ m) hvL k1 hp2 ⟨_, hU2⟩ fun G S e2 => ?_)
    have nlW : l ∉ W :: U :: os' := by
      simp only [List.mem_cons, not_or]
      exact ⟨fun z => R.nw (by simp [z]), fun z => R.nu (by simp [z]), nl⟩
    have sG : Same (offs (W :: U :: l :: os') H) G := (offs2 (fun b o _ e => e) (fun b m => by simp only [List.mem_cons] at m ⊢; rcases m with m | m | m <;> simp [m])).trans S
    have hlG : G l = some (.lst (bs.map V.ref)) := S _ _ (by rw [offs_out nlW]; exact hl)
    exact .record (SqT.of e2) (SqL.of hlG) h1 h2 h3 (fun i b n u a1 a2 a3 => Same.tupS sG (hf1 i b n u a1 a2 a3)) fun i u t a b => (hf2 i u t a b).same sG
  | item =>
    obtain ⟨t, ts, Vx, rfl, rfl⟩ := bld_item hb
    obtain ⟨vsT, hU, hv⟩ := R.vl
    obtain ⟨v, vs1, rfl, ht, hv1⟩ := hv.tm_inv
    obtain ⟨l, us, vs0, os', rfl, rfl, hl, ha, nl, hvL⟩ := hv1.items_inv
    have hU' : H U = some (.lst ((vs0.reverse ++ [.ref l]) ++ [v])) := by rw [hU]; simp
    have hl0 := hvL.len
    have nlU : l ≠ U := fun z => R.nu (by simp [z])
    walk_at "rd"
    refine ⟨.inl ⟨rfl, _, SqL.of hU'⟩, ?_⟩
    walk_at "rd"
    refine ⟨U, _, v, rfl, rfl, hU', by simp, ?_⟩
    rw [List.dropLast_concat]
    have hl1 : (upd H U (.lst (vs0.reverse ++ [.ref l]))) l = some (.lst us) := by rw [upd_ne nlU]; exact hl
    have hU1 := @upd_same H U (.lst (vs0.reverse ++ [.ref l]))
    have k1 : KeepA [U, l] H (upd H U (.lst (vs0.reverse ++ [.ref l]))) := KeepA.wr (by simp)
    generalize upd H U (.lst (vs0.reverse ++ [.ref l])) = H1 at *
    walk_at "rd"
    refine ⟨U, _, _, _, rfl, rfl, SqL.of hU1, at_last, ?_⟩
    walk_at "rd"
    refine ⟨.inl ⟨rfl, _, SqL.of hl1⟩, ?_⟩
    walk_at "rd"
    refine ⟨l, us, _, rfl, rfl, hl1, ?_, ?_⟩
    · have h1 := ha.1
      have h2 := hfl ts (.inl (by simp))
      omega
    refine q _ (R.grow hvL nl (k1.trans (KeepA.wr (by simp))) ?_ fun z => .items upd_same ?_ nl z)
    · rw [upd_ne nlU.symm]; exact hU1
    · have kk : KeepA (W :: U :: l :: os') H (upd H1 l (.lst (us ++ [v]))) := (k1.trans (KeepA.wr (by simp))).mono (by simp)
      exact (ha.mono fun a b _ z => z.same kk.offs).snoc (ht.same kk.offs)
  | entry =>
    obtain ⟨t, m, ls, ts, Vx, rfl, rfl⟩ := bld_entry hb
    obtain ⟨vsT, hU, hv⟩ := R.vl
    obtain ⟨v, vs1, rfl, ht, hv1⟩ := hv.tm_inv
    obtain ⟨vs2, rfl, hv2⟩ := hv1.nm_inv
    obtain ⟨l, bs, us, vs0, os', rfl, rfl, hl, h1, h2, h3, hf1, hf2, nl, hvL⟩ := hv2.flds_inv
    have hU' : H U = some (.lst (((vs0.reverse ++ [.ref l]) ++ [.str m]) ++ [v])) := by rw [hU]; simp
    have hl0 := hvL.len
    have nlU : l ≠ U := fun z => R.nu (by simp [z])
    walk_at "rd"
    refine ⟨.inl ⟨rfl, _, SqL.of hU'⟩, ?_⟩
    walk_at "rd"
    refine ⟨U, _, v, rfl, rfl, hU', by simp, ?_⟩
    rw [List.dropLast_concat]
    have hl1 : (upd H U (.lst ((vs0.reverse ++ [.ref l]) ++ [.str m]))) l = some (.lst (bs.map V.ref)) := by rw [upd_ne nlU]; exact hl
    have hU1 := @upd_same H U (.lst ((vs0.reverse ++ [.ref l]) ++ [.str m]))
    have k1 : KeepA [U, l] H (upd H U (.lst ((vs0.reverse ++ [.ref l]) ++ [.str m]))) := KeepA.wr (by simp)
    generalize upd H U (.lst ((vs0.reverse ++ [.ref l]) ++ [.str m])) = H1 at *
    walk_at "rd"
    refine ⟨.inl ⟨rfl, _, SqL.of hU1⟩, ?_⟩
    walk_at "rd"
    refine ⟨U, _, .str m, rfl, rfl, hU1, by simp, ?_⟩
    rw [List.dropLast_concat]
    have hl2 : (upd H1 U (.lst (vs0.reverse ++ [.ref l]))) l = some (.lst (bs.map V.ref)) := by rw [upd_ne nlU]; exact hl1
    have hU2 := @upd_same H1 U (.lst (vs0.reverse ++ [.ref l]))
    have k2 : KeepA [U, l] H (upd H1 U (.lst (vs0.reverse ++ [.ref l]))) := k1.trans (KeepA.wr (by simp))
    generalize upd H1 U (.lst (vs0.reverse ++ [.ref l])) = H2 at *
    walk_at "rd"
    refine ⟨U, _, _, _, rfl, rfl, SqL.of hU2, at_last, ?_⟩
    walk_at "rd"
    refine ⟨.inl ⟨rfl, _, SqL.of hl2⟩, ?_⟩
    walk_at "rd"
    intro p hp
    have S3 := same_new hp (.tup [V.str m, v])
    have hl3 := S3 _ _ hl2
    have hU3 := S3 _ _ hU2
    have hp3 := @upd_same H2 p (.tup [V.str m, v])
    have npl : p ≠ l := fun z => by rw [z, hl2] at hp; cases hp
    have k3 : KeepA [U, l] H (upd H2 p (.tup [V.str m, v])) := k2.trans S3.keepA
    have hpH : H p = none := by
      cases e : H p with
      | none => rfl
      | some y =>
        have npu : p ≠ U := fun z => by rw [z, hU2] at hp; cases hp
        have := k2 p y (by simp [npl, npu]) e
        rw [hp] at this
        cases this
    have np := R.notin hpH
    generalize upd H2 p (.tup [V.str m, v]) = H3 at *
    refine ⟨l, _, _, rfl, rfl, hl3, ?_, ?_⟩
    · have h2 := hfl ts (.inr ⟨ls, by simp⟩)
      rw [List.length_map]
      omega
    have kk : KeepA (W :: U :: l :: os') H (upd H3 l (.lst (bs.map V.ref ++ [.ref p]))) := (k3.trans (KeepA.wr (by simp))).mono (by simp)
    have hpG : offs (W :: U :: l :: os') (upd H3 l (.lst (bs.map V.ref ++ [.ref p]))) p = some (.tup [V.str m, v]) := by rw [offs_out np, upd_ne npl]; exact hp3
    refine q _ (R.grow hvL nl (k3.trans (KeepA.wr (by simp))) ?_ fun z => .flds (bs := bs ++ [p]) (us := us ++ [v]) ?_ (by simp [h1]) (by simp [h2]) (by simp [h3]) ?_ ?_ nl z)
    · rw [upd_ne nlU.symm]; exact hU3
    · rw [upd_same, List.map_append]; rfl
    · intro i b n' u e1 e2 e3
      by_cases hi : i < bs.length
      · rw [List.getElem?_append_left hi] at e1
        rw [List.getElem?_append_left (by omega)] at e2
        rw [List.getElem?_append_left (by omega)] at e3
        exact Same.tupS kk.offs (hf1 i b n' u e1 e2 e3)
      · rw [List.getElem?_append_right (by omega)] at e1
        rw [List.getElem?_append_right (by omega)] at e2
        rw [List.getElem?_append_right (by omega)] at e3
        have z0 : i - bs.length = 0 := by
          have := (List.getElem?_eq_some_iff.mp e1).1
          simp at this
          omega
        rw [z0] at e1
        rw [show i - ls.length = 0 by omega] at e2
        rw [show i - us.length = 0 by omega] at e3
        simp at e1 e2 e3
        subst e1
        subst e2
        subst e3
        exact SqT.of hpG
    · intro i u t' e1 e2
      by_cases hi : i < us.length
      · rw [List.getElem?_append_left hi] at e1
        rw [List.getElem?_append_left (by omega)] at e2
        exact (hf2 i u t' e1 e2).same kk.offs
      · rw [List.getElem?_append_right (by omega)] at e1
        rw [List.getElem?_append_right (by omega)] at e2
        have z0 : i - us.length = 0 := by
          have := (List.getElem?_eq_some_iff.mp e1).1
          simp at this
          omega
        rw [z0] at e1
        rw [show i - ts.length = 0 by omega] at e2
        simp at e1 e2
        subst e1
        subst e2
        exact ht.same kk.offs
end
end Vt


set_option Elab.async false
set_option linter.all false
set_option maxRecDepth 100000
set_option maxHeartbeats 4000000

namespace Vt
open PySem PySem.Spec PyProof.Rows L2 TL
/-! ### what is built is built at once -/
theorem while_m {c : TT} {tb : TS} {D : Ends} {σ : L2.St} {H : Hp} (Pv : Nat → L2.St → Hp → Prop) (h0 : ∃ m, Pv m σ H)
    (hs : ∀ m σ H, Pv m σ H → c σ H fun b H1 => if b = true then tb { D with nx := fun σ' H' => ∃ m', m' < m ∧ Pv m' σ' H', ct := fun σ' H' => ∃ m', m' < m ∧ Pv m' σ' H', bk := D.nx } σ H1 else D.nx σ H1)
    (mono : ∀ σ H Q Q', (∀ b H1, Q b H1 → Q' b H1) → c σ H Q → c σ H Q') : tWhile c tb D σ H :=
  ⟨Pv, h0, fun m σ H p => mono σ H _ _ (fun b H1 q => by
    cases b with
    | true => exact ⟨_, fun _ _ z => z, q⟩
    | false => exact q) (hs m σ H p)⟩
/-- how much has been read -/
def Vl.sz : Vl → Nat | .items ts => 1 + ts.length | .flds _ ts => 1 + ts.length | _ => 1
def vsum (xs : List Vl) : Nat := (xs.map Vl.sz).sum
theorem vsum_cons (x : Vl) (xs : List Vl) : vsum (x :: xs) = x.sz + vsum xs := by simp [vsum]
theorem vsum_len : ∀ xs : List Vl, xs.length ≤ vsum xs
  | [] => by simp [vsum]
  | x :: xs => by
    have := vsum_len xs
    rw [vsum_cons, List.length_cons]
    cases x <;> simp only [Vl.sz] <;> omega
theorem vsum_list : ∀ (xs : List Vl) (ts : List T), (.items ts ∈ xs ∨ ∃ ls, .flds ls ts ∈ xs) → ts.length ≤ vsum xs
  | [], ts, h => by simp at h
  | x :: xs, ts, h => by
    rw [vsum_cons]
    rcases h with h | ⟨ls, h⟩
    · rcases List.mem_cons.mp h with rfl | h
      · simp only [Vl.sz]; omega
      · have := vsum_list xs ts (.inl h); omega
    · rcases List.mem_cons.mp h with rfl | h
      · simp only [Vl.sz]; omega
      · have := vsum_list xs ts (.inr ⟨ls, h⟩); omega
theorem bld_sum {b : Bd} {xs xs' : List Vl} (h : bld b xs = some xs') : vsum xs' ≤ vsum xs := by
  unfold bld at h
  split at h
  all_goals first | (injection h with h; subst h; simp only [vsum_cons, Vl.sz, List.length_append, List.length_cons, List.length_nil]; omega) | (cases h)
theorem blds_build {b : Bd} {ws ws' : List Wn} {xs xs' : List Vl} (h : blds (.build b :: ws) xs = some (ws', xs')) : ∃ ys, bld b xs = some ys ∧ blds ws ys = some (ws', xs') := by
  unfold blds at h
  cases e : bld b xs with
  | none => rw [e] at h; cases h
  | some ys => rw [e] at h; exact ⟨ys, rfl, h⟩
theorem blds_stop {c : Wn} {ws ws' : List Wn} {xs xs' : List Vl} (n : ∀ b, c ≠ .build b) (h : blds (c :: ws) xs = some (ws', xs')) : ws' = c :: ws ∧ xs' = xs := by
  rw [blds_id n] at h
  injection h with h
  injection h with h1 h2
  exact ⟨h1.symm, h2.symm⟩
theorem what_build {c : Wn} (n : ∀ b, c ≠ .build b) : c.what ≠ "build" := by
  cases c with
  | build b => exact absurd rfl (n b)
  | _ => simp only [Wn.what]; decide
def spBuildAll (K : PySem.W.Frag) : Sp := fun vs H Q _ => ∃ (W U : Addr) (ws ws' : List Wn) (xs xs' : List Vl) (os : List Addr), vs = [.ref W, .ref U] ∧ Rs K W U H ws xs os ∧ ws.length + vsum xs ≤ 1000200 ∧ blds ws xs = some (ws', xs') ∧ ∀ H', Mv K W U os H H' ws' xs' → Q .non H'
abbrev s_build_all : Stmt := topS 65
abbrev N_build_all : List Str := ["wanted", "values"]
theorem sc_build_all : FnScope N_build_all ["wanted", "values"] (defScope s_build_all) := ⟨rfl, rfl, rfl, by decide +kernel, rfl, by decide +kernel, by decide +kernel⟩
section
variable {P : Program} {w : World} {K : PySem.W.Frag} {mg : Str → Option Value} {base : Heap}
theorem ok_build_all (S : Stands K mg "build_all" s_build_all ["wanted", "values"]) (H_build : DefOk P w K mg base CX0 1 "build" ["which", "values"] (spBuild K)) : DefOk P w K mg base CX0 2 "build_all" ["wanted", "values"] (spBuildAll K) := by
  obtain ⟨f, fd, F, hm, hb⟩ := S
  obtain ⟨f_build, fd_build, G_build, m_build, k_build, b_build⟩ := H_build
  refine ⟨f, fd, ?_, hm, F.kp, hb⟩
  have nd := sc_build_all.nd
  refine F.ok sc_build_all (fun vs H Q E h => ?_) (fun cdv A outer s0 H vs Q E hr h => ?_)
  · obtain ⟨W, U, ws, ws', xs, xs', os, rfl, _⟩ := h
    rfl
  obtain ⟨W, U, ws, ws', xs, xs', os, rfl, R, hf, hb, q⟩ := h
  refine ⟨_, (pss_one (ps_while PassesOwn.never (PW.pt (pw_and (pt_truth (pv 0) (by intro _; rfl)) (pw_and1 (pt_cmpR op_eq (pe_ix ix_tup (pe_ix ix_list (pv 0) (pe_un un_neg pe_int) (fun _ _ => rfl)) pe_int (fun _ _ => rfl)) pe_str (nomark _))))) (pss_one (ps_expr (pe_call G_build (hr.mono (by decide)) rfl m_build k_build b_build .nil pass0 (pa_cons (pe_ix ix_tup (pe_bm0 PySem.F.plainAttrs_list PySem.F.slot_list_pop PySem.F.type_list_pop mt_pop (pv 0)) pe_int (fun _ _ => rfl)) (pa_cons (pv 1) pa_nil))))))), ?_⟩
  walk_at "rd"
  refine while_m (fun m σ X => ∃ (us : List Wn) (ys : List Vl) (o1 : List Addr), σ = L2.start N_build_all [V.ref W, V.ref U] ∧ Rs K W U X us ys o1 ∧ KeepA (W :: U :: os) H X ∧ (∀ o ∈ o1, o ∈ os ∨ H o = none) ∧ us.length + vsum ys ≤ 1000200 ∧ blds us ys = some (ws', xs') ∧ m = us.length) ?_ ?_ ?_
  · exact ⟨_, ws, xs, os, rfl, R, fun b o _ e => e, fun o m => .inl m, hf, hb, rfl⟩
  · rintro m σ X ⟨us, ys, o1, rfl, R1, k1, s1, hz, hbl, rfl⟩
    obtain ⟨cs, hW, ha⟩ := R1.wt
    have ha' : Al (Wnt K X) cs us := ha.mono fun a b _ z => z.same offs_same
    walk_at "rd"
    refine ⟨!cs.reverse.isEmpty, .inl ⟨_, SqL.of hW, rfl⟩, ?_⟩
    match us, cs, ha', hW, hbl, R1, hz, ha with
    | [], [], _, hW, hbl, R1, hz, _ =>
      refine ifF rfl ?_
      refine ifF rfl ?_
      injection hbl with hbl
      injection hbl with e1 e2
      subst e1
      subst e2
      exact q X ⟨o1, R1, k1, s1⟩
    | c :: us0, v :: cs0, ha', hW, hbl, R1, hz, ha =>
      obtain ⟨a, rfl, hv⟩ := ha'.2 0 v c rfl rfl
      have hW' : X W = some (.lst (cs0.reverse ++ [.ref a])) := by rw [hW, List.reverse_cons]
      refine ifT (by simp) ?_
      walk_at "rd"
      refine ⟨W, _, _, _, rfl, rfl, SqL.of hW', at_last, ?_⟩
      walk_at "rd"
      by_cases hcb : ∃ b, c = .build b
      · obtain ⟨b, rfl⟩ := hcb
        obtain ⟨ys1, hb1, hb2⟩ := blds_build hbl
        refine ifT (decide_eq_true rfl) ?_
        walk_at "rd"
        refine ⟨.inl ⟨rfl, _, SqL.of hW'⟩, ?_⟩
        walk_at "rd"
        refine ⟨W, _, .ref a, rfl, rfl, hW', by simp, ?_⟩
        rw [List.dropLast_concat]
        have kW : KeepA [W] X (upd X W (.lst cs0.reverse)) := KeepA.wr (by simp)
        obtain ⟨c0, w0, g1, g2, g3, g4⟩ := R1.read (H' := upd X W (.lst cs0.reverse)) (kW.mono (by simp))
        rw [hW] at g1
        have ec : cs0.reverse ++ [V.ref a] = c0.reverse := by injection g1 with g1; injection g1 with g1; rw [← g1, List.reverse_cons]
        have R2 : Rs K W U (upd X W (.lst cs0.reverse)) us0 ys o1 := by
          refine R1.setW kW (cs' := cs0) upd_same ?_
          have ec2 : c0 = .ref a :: cs0 := by
            have := congrArg List.reverse ec
            simp at this
            exact this.symm
          rw [ec2] at g3
          exact ⟨by simpa using g3.1, fun i x y hx hy => g3.2 (i + 1) x y (by simpa using hx) (by simpa using hy)⟩
        have hv2 : SqT K (upd X W (.lst cs0.reverse)) a [.str (Wn.build b).what, .str (Wn.build b).which] := by
          have ec2 : c0 = .ref a :: cs0 := by
            have := congrArg List.reverse ec
            simp at this
            exact this.symm
          rw [ec2] at g3
          obtain ⟨a', ea, hq⟩ := g3.2 0 (.ref a) (.build b) rfl rfl
          injection ea with ea
          subst ea
          exact Same.tupS offs_same hq
        generalize upd X W (.lst cs0.reverse) = X2 at *
        walk_at "rd"
        have hvl := vsum_len ys
        simp at hz
        refine ⟨b, W, U, us0, ys, ys1, o1, rfl, R2, by omega, fun ts h => by have := vsum_list ys ts h; omega, hb1, fun X3 m3 => ?_⟩
        walk_at "rd"
        obtain ⟨o3, R3, k3, s3⟩ := Mv.chain R1 k1 s1 (Mv.after R2 (kW.mono (by simp)) m3)
        have hs := bld_sum hb1
        exact ⟨us0.length, by simp, us0, ys1, o3, rfl, R3, k3, s3, by omega, hb2, rfl⟩
      · have hn : ∀ b, c ≠ .build b := fun b e => hcb ⟨b, e⟩
        refine ifF (eqF (what_build hn)) ?_
        obtain ⟨rfl, rfl⟩ := blds_stop hn hbl
        exact q X ⟨o1, R1, k1, s1⟩
    | [], _ :: _, ha', _, _, _, _, _ => exact absurd ha'.1 (by simp)
    | _ :: _, [], ha', _, _, _, _, _ => exact absurd ha'.1 (by simp)
  · intro σ X Q1 Q2 m z
    obtain ⟨x, e, k, e1, z⟩ := z
    refine ⟨x, e, k, e1, ?_⟩
    cases k with
    | false => exact m _ _ z
    | true =>
      obtain ⟨x0, e0, i, ei, p, xs, j, v, a1, a2, a3, a4, p', xs', j', v', b1, b2, b3, b4, r1, k', c1, z⟩ := z
      exact ⟨x0, e0, i, ei, p, xs, j, v, a1, a2, a3, a4, p', xs', j', v', b1, b2, b3, b4, r1, k', c1, m _ _ z⟩
end
end Vt


set_option Elab.async false
set_option linter.all false
set_option maxRecDepth 100000
set_option maxHeartbeats 4000000

namespace Vt
open PySem PySem.Spec PyProof.Rows L2 TL
/-! ### all words of a text -/
theorem blds_sum : ∀ (ws : List Wn) (xs : List Vl) {ws' : List Wn} {xs' : List Vl}, blds ws xs = some (ws', xs') → ws'.length + vsum xs' ≤ ws.length + vsum xs
  | [], xs, ws', xs', h => by
    injection h with h
    injection h with h1 h2
    subst h1
    subst h2
    exact Nat.le_refl _
  | c :: ws, xs, ws', xs', h => by
    by_cases hc : ∃ b, c = .build b
    · obtain ⟨b, rfl⟩ := hc
      obtain ⟨ys, h1, h2⟩ := blds_build h
      have := blds_sum ws ys h2
      have := bld_sum h1
      rw [List.length_cons]
      omega
    · obtain ⟨rfl, rfl⟩ := blds_stop (fun b e => hc ⟨b, e⟩) h
      exact Nat.le_refl _
theorem takeT_sum {x : Str} {ws ws' : List Wn} {xs xs' : List Vl} (h : TakeT x ws xs ws' xs') : ws'.length + vsum xs' ≤ ws.length + vsum xs + 3 := by
  cases h <;> (try simp only [vsum_cons, Vl.sz, List.length_cons, List.length_nil]) <;> omega
theorem take_sum {c : Wn} {x : Str} {ws ws' : List Wn} {xs xs' : List Vl} (h : Take c x ws xs ws' xs') : ws'.length + vsum xs' ≤ ws.length + vsum xs + 10 := by
  cases h with
  | term h => have := takeT_sum h; omega
  | oTerm h => have := takeT_sum h; simp only [List.length_cons] at this; omega
  | bTerm h => have := takeT_sum h; simp only [List.length_append, bhApp, List.length_cons, List.length_nil] at this; omega
  | _ => (try simp only [vsum_cons, Vl.sz, List.length_cons, List.length_append, List.length_nil, bhFun, bhLet, bhRec, bhIf, bhOf, bhApp, bhDot, bhWith, bhComma, bhEq]); omega
theorem take_noBuild {c : Wn} {x : Str} {ws ws' : List Wn} {xs xs' : List Vl} (h : Take c x ws xs ws' xs') : ∀ b, c ≠ .build b := by
  cases h <;> intro b e <;> cases e
/-- where each def that takes a word stands -/
structure Takes (P : Program) (w : World) (K : PySem.W.Frag) (mg : Str → Option Value) (base : Heap) (D : Addr) (es : Array DictEntry) (n : Nat) : Prop where
  at_ : mg "TAKES" = some (.ref D)
  kd : KDict K w D es n
  fn : ∀ c : Wn, (∀ b, c ≠ .build b) → ∃ f : Addr, PySem.W.nsIn K D c.what = some (some (.ref f)) ∧ Held P w K mg base 4 f (spTake K c.what)
def spToW (K : PySem.W.Frag) : Sp := fun vs H Q _ => ∃ (l : Addr) (wds : List Str) (t : T), vs = [.ref l] ∧ SqL K H l (wds.map V.str) ∧ Steps wds [.term] [] [] [.tm t] ∧ wds.length ≤ 90000 ∧ (∀ x ∈ wds, x.length ≤ 1000 ∧ ∀ k, x = intS k → -(10 ^ 30) ≤ k ∧ k ≤ 10 ^ 30) ∧
  ∀ v H', Same H H' → Tm K H' v t → Q v H'
abbrev s_term_of_words : Stmt := topS 66
abbrev N_term_of_words : List Str := ["words", "wanted", "values", "number", "word", "what", "which", "take"]
theorem sc_term_of_words : FnScope N_term_of_words ["words"] (defScope s_term_of_words) := ⟨rfl, rfl, rfl, by decide +kernel, rfl, by decide +kernel, by decide +kernel⟩
section
variable {P : Program} {w : World} {K : PySem.W.Frag} {mg : Str → Option Value} {base : Heap}
theorem ok_term_of_words {D : Addr} {es : Array DictEntry} {dn : Nat} (S : Stands K mg "term_of_words" s_term_of_words ["words"]) (Z : Blt mg) (TK : Takes P w K mg base D es dn) (H_build_all : DefOk P w K mg base CX0 2 "build_all" ["wanted", "values"] (spBuildAll K)) : DefOk P w K mg base CX0 6 "term_of_words" ["words"] (spToW K) := by
  have z_enumerate := Z.enumerate
  have z_len := Z.len
  have c_TAKES := TK.at_
  have c_TAKES_r : RelV (.ref D) (Value.ref D) := rfl
  obtain ⟨f, fd, F, hm, hb⟩ := S
  obtain ⟨f_build_all, fd_build_all, G_build_all, m_build_all, k_build_all, b_build_all⟩ := H_build_all
  refine ⟨f, fd, ?_, hm, F.kp, hb⟩
  have nd := sc_term_of_words.nd
  refine F.ok sc_term_of_words (fun vs H Q E h => ?_) (fun cdv A outer s0 H vs Q E hr h => ?_)
  · obtain ⟨l, wds, t, rfl, _⟩ := h
    rfl
  obtain ⟨l, wds, t, rfl, hl, hst, hn, hw, q⟩ := h
  refine ⟨_, (pss_cons (ps_set (i := 1) nd rfl (Or.inl rfl) (pe_lst (pa_cons (pe_tup (pa_cons pe_str (pa_cons pe_str pa_nil))) pa_nil)))
      (pss_cons (ps_set (i := 2) nd rfl (Or.inl rfl) (pe_lst pa_nil))
      (pss_cons (ps_for PassesOwn.never rfl (pi_enum (by rfl) z_enumerate (pa_cons (pv 0) pa_nil)) (pg_tup rfl (pgs_cons (pg_name (i := 3) nd rfl (Or.inl rfl)) (pgs_cons (pg_name (i := 4) nd rfl (Or.inl rfl)) pgs_nil))) (pss_cons (ps_if (pt_not (pt_truth (pv 1) (by intro _; rfl))) (pss_one (ps_never)) pss_nil)
      (pss_cons (ps_asg (pe_bm0 PySem.F.plainAttrs_list PySem.F.slot_list_pop PySem.F.type_list_pop mt_pop (pv 1)) (pg_tup rfl (pgs_cons (pg_name (i := 5) nd rfl (Or.inl rfl)) (pgs_cons (pg_name (i := 6) nd rfl (Or.inl rfl)) pgs_nil))))
      (pss_cons (ps_set (i := 7) nd rfl (Or.inl rfl) (pe_ix ix_kdict (pe_glob rfl c_TAKES c_TAKES_r) (pv 5) (fun _ _ => rfl)))
      (pss_cons (ps_if (pt_not (pt_val (pe_held (k := 4) (i := 7) (hr.mono (by decide)) rfl (Or.inl rfl) (pa_cons (pv 4) (pa_cons (pv 6) (pa_cons (pv 1) (pa_cons (pv 2) pa_nil))))))) (pss_one (ps_never)) pss_nil)
      (pss_one (ps_expr (pe_call G_build_all (hr.mono (by decide)) rfl m_build_all k_build_all b_build_all .nil pass0 (pa_cons (pv 1) (pa_cons (pv 2) pa_nil))))))))))
      (pss_cons (ps_if (pt_truth (pv 1) (by intro _; rfl)) (pss_one (ps_never)) pss_nil)
      (pss_one (ps_ret (pe_ix ix_list (pv 2) pe_int (fun _ _ => rfl)))))))), ?_⟩
  walk_at "rd"
  intro p0 hp0
  have S0 := same_new hp0 (.tup [V.str "term", V.str ""])
  have h0 := @upd_same H p0 (.tup [V.str "term", V.str ""])
  generalize upd H p0 (.tup [V.str "term", V.str ""]) = H0 at *
  walk_at "rd"
  intro W hW
  have S1 := same_new hW (.lst [V.ref p0])
  have hW1 := @upd_same H0 W (.lst [V.ref p0])
  have h1 := S1 _ _ h0
  have WH : H W = none := by
    cases e : H W with
    | none => rfl
    | some y => have := S0 _ _ e; rw [hW] at this; cases this
  generalize upd H0 W (.lst [V.ref p0]) = H1 at *
  walk_at "rd"
  intro U hU
  have S2 := same_new hU (.lst [])
  have hU2 := @upd_same H1 U (.lst [])
  have hW2 := S2 _ _ hW1
  have h2 := S2 _ _ h1
  have nWU : W ≠ U := fun z => by rw [z, hU] at hW1; cases hW1
  have UH : H U = none := by
    cases e : H U with
    | none => rfl
    | some y => have := S1 _ _ (S0 _ _ e); rw [hU] at this; cases this
  have n0 : p0 ∉ [W, U] := by
    simp only [List.mem_cons, List.not_mem_nil, or_false, not_or]
    exact ⟨fun z => (by rw [z, hW] at h0; cases h0), fun z => (by rw [z, hU] at h1; cases h1)⟩
  have SH := (S0.trans S1).trans S2
  generalize upd H1 U (.lst []) = H2 at *
  have R0 : Rs K W U H2 [.term] [] [] := ⟨nWU, by simp, by simp, ⟨[.ref p0], hW2, ⟨rfl, fun i x y hx hy => by
    cases i with
    | zero =>
      simp at hx hy
      subst hx
      subst hy
      exact Wnt.mk (by rw [offs_out n0]; exact h2) rfl rfl
    | succ i => simp at hx⟩⟩, ⟨[], hU2, .nil⟩⟩
  walk_at "rd"
  refine ⟨l, wds.map V.str, rfl, SH.seq hl, ?_⟩
  refine for_it (walk_enum (K := K) (a := l) (xs := wds.map V.str)) (fun i σ X => ∃ (ws : List Wn) (xs : List Vl) (os : List Addr) (s3 s4 s5 s6 s7 : Option V), σ = [some (.ref l), some (.ref W), some (.ref U), s3, s4, s5, s6, s7] ∧ Same H X ∧ (∀ o ∈ os, H o = none) ∧ Rs K W U X ws xs os ∧
      Steps (wds.drop i) ws xs [] [.tm t] ∧ ws.length + vsum xs ≤ 1 + 10 * i)
    ⟨[.term], [], [], none, none, none, none, none, rfl, SH, by simp, R0, hst, by simp [vsum]⟩ (fun i σ X hi ⟨ws, xs, os, s3, s4, s5, s6, s7, _, g1, _⟩ => g1.seq hl) ?_ ?_
  · rintro i x σ X X' hi ⟨ws, xs, os, s3, s4, s5, s6, s7, rfl, g1, g2, R, hs, hb⟩ ⟨T0, y, z, rfl, hT0, rfl, hy, hz⟩
    cases hy
    obtain ⟨x, hx1, hx2, rfl⟩ := get_map hz
    have ST := same_new hT0 (.tup [V.int (i : Int), V.str x])
    refine ⟨T0, _, rfl, SqT.of upd_same, rfl, ?_⟩
    refine ⟨_, _, rfl, ⟨_, _, rfl, rfl, ?_⟩⟩
    have hlt : i < wds.length := (List.getElem?_eq_some_iff.mp hx2).1
    have hd : wds.drop i = x :: wds.drop (i + 1) := by
      rw [List.drop_eq_getElem_cons hlt]
      have := (List.getElem?_eq_some_iff.mp hx2).2
      rw [this]
    rw [hd] at hs
    cases hs with
    | cons hstep hrest =>
    cases hstep with
    | @mk c _ ws0 _ W1 V1 W2 V2 htk hbl =>
    have R' := R.same ST
    have g1' := g1.trans ST
    obtain ⟨cs, hcs, ha⟩ := R'.wt
    generalize upd X T0 (.tup [V.int (i : Int), V.str x]) = X1 at *
    match cs, ha, hcs with
    | [], ha, _ => exact absurd ha.1 (by simp)
    | v :: cs0, ha, hcs =>
    obtain ⟨a, rfl, hv⟩ := ha.2 0 v c rfl rfl
    have hcs' : X1 W = some (.lst (cs0.reverse ++ [.ref a])) := by rw [hcs, List.reverse_cons]
    walk_at "rd"
    refine ⟨true, .inl ⟨_, SqL.of hcs', by simp⟩, ?_⟩
    refine ifF rfl ?_
    walk_at "rd"
    refine ⟨.inl ⟨rfl, _, SqL.of hcs'⟩, ?_⟩
    walk_at "rd"
    refine ⟨W, _, .ref a, rfl, rfl, hcs', by simp, ?_⟩
    rw [List.dropLast_concat]
    have kW : KeepA [W] X1 (upd X1 W (.lst cs0.reverse)) := KeepA.wr (by simp)
    have hv2 : SqT K (upd X1 W (.lst cs0.reverse)) a [.str c.what, .str c.which] := Same.tupS ((kW.mono (bs := W :: U :: os) (by simp)).offs.trans offs_same) hv
    have R2 : Rs K W U (upd X1 W (.lst cs0.reverse)) ws0 xs os := R'.setW kW (cs' := cs0) upd_same ⟨by simpa using ha.1, fun i x y hx hy => (ha.2 (i + 1) x y (by simpa using hx) (by simpa using hy)).same (kW.mono (bs := W :: U :: os) (by simp)).offs⟩
    generalize upd X1 W (.lst cs0.reverse) = X2 at *
    walk_at "rd"
    refine ⟨a, _, rfl, hv2, rfl, ?_⟩
    obtain ⟨g, hn1, hg⟩ := TK.fn c (take_noBuild htk)
    refine ⟨_, _, rfl, ⟨_, _, rfl, rfl, ?_⟩⟩
    walk_at "rd"
    refine ⟨D, _, .ref g, rfl, rfl, ⟨es, dn, _, TK.kd.at_, TK.kd.lit, hn1, rfl⟩, ?_⟩
    walk_at "rd"
    refine ⟨g, _, rfl, hg, ?_⟩
    walk_at "rd"
    have hmem : x ∈ wds := List.mem_of_getElem? hx2
    have hvl := vsum_len xs
    simp only [List.length_cons] at hb
    have t1 := take_sum htk
    have t2 := blds_sum W1 V1 hbl
    refine ⟨x, c, W, U, ws0, W1, xs, V1, os, rfl, rfl, (hw x hmem).1, R2, .inl (by omega), htk, (hw x hmem).2, fun X3 m3 => ?_⟩
    refine ⟨true, rfl, ifF rfl ?_⟩
    walk_at "rd"
    obtain ⟨o3, R3, k3, s3'⟩ := m3
    refine ⟨W, U, W1, _, V1, _, o3, rfl, R3, by omega, hbl, fun X4 m4 => ?_⟩
    walk_at "rd"
    have kX : KeepA (W :: U :: os) X X2 := ST.keepA.trans (kW.mono (by simp))
    obtain ⟨o4, R4, k4, s4'⟩ := Mv.chain R3 (kX.trans k3) (fun o m => by
      rcases s3' o m with z | z
      · exact .inl z
      · by_cases ho : o ∈ os
        · exact .inl ho
        · refine .inr ?_
          cases e : X o with
          | none => rfl
          | some y =>
            have n1 : o ≠ W := fun z => R3.nw (by rw [← z]; exact m)
            have n2 : o ≠ U := fun z => R3.nu (by rw [← z]; exact m)
            have := kX o y (by simp [n1, n2, ho]) e
            rw [z] at this
            cases this) m4
    have gX : ∀ b y, H b = some y → b ∉ W :: U :: os := fun b y e m => by
      rcases List.mem_cons.mp m with rfl | m
      · rw [WH] at e; cases e
      rcases List.mem_cons.mp m with rfl | m
      · rw [UH] at e; cases e
      · rw [g2 b m] at e; cases e
    refine ⟨_, _, o4, _, _, _, _, _, rfl, fun b y e => k4 b y (gX b y e) (g1 b y e), fun o m => ?_, R4, hrest, by omega⟩
    rcases s4' o m with z | z
    · exact g2 o z
    · cases e : H o with
      | none => rfl
      | some y =>
        have := g1 _ _ e
        rw [z] at this
        cases this
  · rintro σ X ⟨ws, xs, os, s3, s4, s5, s6, s7, rfl, g1, g2, R, hs, hb⟩
    rw [List.length_map, List.drop_length] at hs
    cases hs
    obtain ⟨cs, hcs, ha⟩ := R.wt
    obtain ⟨vs, hvs, hv⟩ := R.vl
    have ec : cs = [] := List.eq_nil_of_length_eq_zero ha.1
    subst ec
    obtain ⟨v, vr, rfl, hT, hr⟩ := hv.tm_inv
    have er : vr = [] := List.eq_nil_of_length_eq_zero hr.len
    subst er
    walk_at "rd"
    refine ⟨false, .inl ⟨_, SqL.of hcs, rfl⟩, ?_⟩
    refine ifF rfl ?_
    walk_at "rd"
    exact q v X g1 (hT.same offs_same)
end
end Vt


set_option Elab.async false
set_option linter.all false
set_option maxRecDepth 100000
set_option maxHeartbeats 4000000

namespace Vt
open PySem PySem.Spec PyProof.Rows L2 TL
/-! ### the words of a text: how long, how many -/
theorem intS_inj {k k' : Int} (h : intS k = intS k') : k = k' := by
  have h' : tl (intS k) = tl (intS k') := by rw [h]
  obtain ⟨n, ⟨h1, e⟩ | ⟨h1, h2, e⟩⟩ := intS_cases k <;> obtain ⟨n', ⟨h1', e'⟩ | ⟨h1', h2', e'⟩⟩ := intS_cases k' <;> rw [e, e'] at h'
  · rw [h1, h1', numL_inj h']
  · exact absurd (numL_free (n := n) (s := 45) (by omega)) (by rw [h']; simp)
  · exact absurd (numL_free (n := n') (s := 45) (by omega)) (by rw [← h']; simp)
  · injection h' with _ h'
    rw [h1, h1', numL_inj h']
/-- a word of a text as it may be -/
def fineW (x : Str) : Prop := x.length ≤ 32 ∧ ∀ k, x = intS k → -(10 ^ 30) ≤ k ∧ k ≤ 10 ^ 30
theorem fine_name {x : Str} (h : isName x) : fineW x := ⟨by have := h.2.1; omega, fun k e => absurd e.symm (int_ne k (notNum_name h))⟩
theorem fine_word {x : Str} (h : x.length ≤ 32) (n : notNum x) : fineW x := ⟨h, fun k e => absurd e.symm (int_ne k n)⟩
theorem fine_int {k : Int} (h : -(10 ^ 30) ≤ k ∧ k ≤ 10 ^ 30) : fineW (intS k) := ⟨intS_len h, fun k' e => by rw [← intS_inj e]; exact h⟩
theorem toks_fine : ∀ (t : T), Wt t → (∀ x ∈ t.toks, fineW x.2) ∧ t.toks.length + 3 ≤ 9 * t.size
  | .node h ks, w => by
    have ih : ∀ t ∈ ks, (∀ x ∈ t.toks, fineW x.2) ∧ t.toks.length + 3 ≤ 9 * t.size := fun t m => toks_fine t (w.kid m)
    have iw := w.hd
    have q : ∀ y : Str, (decide (y.length ≤ 32) && (match y.cps.toList with | [] => false | c :: _ => c != 45 && !Unicode.isDigit c)) = true → fineW (wd y).2 := fun y hy => by
      rw [Bool.and_eq_true] at hy
      exact fine_word (of_decide_eq_true hy.1) (notNum_of hy.2)
    have sumS : ∀ ks : List T, (∀ t ∈ ks, t.toks.length + 3 ≤ 9 * t.size) → (commas (T.tokss ks)).length + 2 * ks.length ≤ 9 * T.sizes ks := by
      intro ks
      induction ks with
      | nil => intro _; simp [T.tokss, commas]
      | cons a r ir =>
        intro hh
        have h1 := hh a List.mem_cons_self
        have h2 := ir fun t m => hh t (List.mem_cons_of_mem _ m)
        simp only [T.tokss, commas, T.sizes, List.length_cons, List.length_append]
        omega
    have sumF : ∀ (ls : List Str) (ks : List T), (∀ t ∈ ks, t.toks.length + 3 ≤ 9 * t.size) → (commas (flds ls (T.tokss ks))).length ≤ 9 * T.sizes ks := by
      intro ls ks
      induction ks generalizing ls with
      | nil => intro _; cases ls <;> simp [T.tokss, flds, commas]
      | cons a r ir =>
        intro hh
        have h1 := hh a List.mem_cons_self
        cases ls with
        | nil => simp [T.tokss, flds, commas]
        | cons n ls =>
          have h2 := ir ls fun t m => hh t (List.mem_cons_of_mem _ m)
          simp only [T.tokss, flds, commas, T.sizes, List.length_cons, List.length_append]
          omega
    have len1 : ∀ r : List (List Wd), (sepd r).length ≤ (commas r).length := by
      intro r
      cases r with
      | nil => simp [sepd]
      | cons a r => rw [sepd_cons]; simp only [commas, List.length_cons, List.length_append]; omega
    cases h with
    | var n => simp only [okHd] at iw; obtain rfl := List.eq_nil_of_length_eq_zero iw.1; exact ⟨fun x m => by simp only [T.toks, Hd.toks, List.mem_singleton] at m; subst m; exact fine_name iw.2, by simp [T.toks, Hd.toks, T.size, T.sizes]⟩
    | int k => simp only [okHd] at iw; obtain rfl := List.eq_nil_of_length_eq_zero iw.1; exact ⟨fun x m => by simp only [T.toks, Hd.toks, List.mem_singleton] at m; subst m; exact fine_int iw.2, by simp [T.toks, Hd.toks, T.size, T.sizes]⟩
    | bool b => simp only [okHd] at iw; obtain rfl := List.eq_nil_of_length_eq_zero iw; exact ⟨fun x m => by simp only [T.toks, Hd.toks, List.mem_singleton] at m; subst m; cases b <;> exact q _ (by decide +kernel), by simp [T.toks, Hd.toks, T.size, T.sizes]⟩
    | tup =>
      refine ⟨fun x m => ?_, ?_⟩
      · simp only [T.toks, Hd.toks, List.mem_cons, List.mem_append, List.not_mem_nil, or_false] at m
        rcases m with rfl | m | rfl
        · exact q _ (by decide +kernel)
        · rcases mem_sepd m with rfl | ⟨a, ma, mx⟩
          · exact q _ (by decide +kernel)
          · obtain ⟨t, mt, rfl⟩ := mem_tokss ma
            exact (ih t mt).1 x mx
        · exact q _ (by decide +kernel)
      · have h1 := sumS ks fun t m => (ih t m).2
        have h2 := len1 (T.tokss ks)
        simp only [T.toks, Hd.toks, T.size, List.length_cons, List.length_append, List.length_nil]
        omega
    | record ls =>
      simp only [okHd] at iw
      refine ⟨fun x m => ?_, ?_⟩
      · simp only [T.toks, Hd.toks, List.mem_cons, List.mem_append, List.not_mem_nil, or_false] at m
        rcases m with rfl | m | rfl
        · exact q _ (by decide +kernel)
        · rcases mem_sepd m with rfl | ⟨a, ma, mx⟩
          · exact q _ (by decide +kernel)
          · obtain ⟨n, hn, b, hb, rfl⟩ := mem_flds ma
            obtain ⟨t, mt, rfl⟩ := mem_tokss hb
            simp only [List.mem_cons] at mx
            rcases mx with rfl | rfl | mx
            · exact fine_name (iw.2.2.1 n hn)
            · exact q _ (by decide +kernel)
            · exact (ih t mt).1 x mx
        · exact q _ (by decide +kernel)
      · have h1 := sumF ls ks fun t m => (ih t m).2
        have h2 := len1 (flds ls (T.tokss ks))
        simp only [T.toks, Hd.toks, T.size, List.length_cons, List.length_append, List.length_nil]
        omega
    | part k z =>
      simp only [okHd] at iw
      obtain ⟨a, rfl⟩ := List.length_eq_one_iff.mp iw.1
      have ha := ih a (by simp)
      refine ⟨fun x m => ?_, ?_⟩
      · simp only [T.toks, T.tokss, Hd.toks, List.mem_cons, List.mem_append, List.not_mem_nil, or_false] at m
        rcases m with rfl | rfl | rfl | rfl | m | rfl
        all_goals first | exact q _ (by decide +kernel) | exact fine_int (by omega) | exact ha.1 x m
      · simp only [T.toks, T.tokss, Hd.toks, T.size, T.sizes, List.length_cons, List.length_append, List.length_nil]
        omega
    | cond =>
      simp only [okHd] at iw
      obtain ⟨a, b, c, rfl⟩ := len_three iw
      have ha := ih a (by simp)
      have hb := ih b (by simp)
      have hc := ih c (by simp)
      refine ⟨fun x m => ?_, ?_⟩
      · simp only [T.toks, T.tokss, Hd.toks, List.mem_cons, List.mem_append, List.not_mem_nil, or_false] at m
        rcases m with rfl | rfl | m | rfl | m | rfl | m | rfl
        all_goals first | exact q _ (by decide +kernel) | exact ha.1 x m | exact hb.1 x m | exact hc.1 x m
      · simp only [T.toks, T.tokss, Hd.toks, T.size, T.sizes, List.length_cons, List.length_append, List.length_nil]
        omega
    | app =>
      simp only [okHd] at iw
      obtain ⟨a, b, rfl⟩ := len_two iw
      have ha := ih a (by simp)
      have hb := ih b (by simp)
      refine ⟨fun x m => ?_, ?_⟩
      · simp only [T.toks, T.tokss, Hd.toks, List.mem_cons, List.mem_append, List.not_mem_nil, or_false] at m
        rcases m with rfl | m | m | rfl
        all_goals first | exact q _ (by decide +kernel) | exact ha.1 x m | exact hb.1 x m
      · simp only [T.toks, T.tokss, Hd.toks, T.size, T.sizes, List.length_cons, List.length_append, List.length_nil]
        omega
    | fn n =>
      simp only [okHd] at iw
      obtain ⟨a, rfl⟩ := List.length_eq_one_iff.mp iw.1
      have ha := ih a (by simp)
      refine ⟨fun x m => ?_, ?_⟩
      · simp only [T.toks, T.tokss, Hd.toks, List.mem_cons, List.mem_append, List.not_mem_nil, or_false] at m
        rcases m with rfl | rfl | rfl | rfl | m | rfl
        all_goals first | exact q _ (by decide +kernel) | exact fine_name iw.2 | exact ha.1 x m
      · simp only [T.toks, T.tokss, Hd.toks, T.size, T.sizes, List.length_cons, List.length_append, List.length_nil]
        omega
    | field n =>
      simp only [okHd] at iw
      obtain ⟨a, rfl⟩ := List.length_eq_one_iff.mp iw.1
      have ha := ih a (by simp)
      refine ⟨fun x m => ?_, ?_⟩
      · simp only [T.toks, T.tokss, Hd.toks, List.mem_cons, List.mem_append, List.not_mem_nil, or_false] at m
        rcases m with rfl | m | rfl | rfl | rfl
        all_goals first | exact q _ (by decide +kernel) | exact fine_name iw.2 | exact ha.1 x m
      · simp only [T.toks, T.tokss, Hd.toks, T.size, T.sizes, List.length_cons, List.length_append, List.length_nil]
        omega
    | lt n =>
      simp only [okHd] at iw
      obtain ⟨a, b, rfl⟩ := len_two iw.1
      have ha := ih a (by simp)
      have hb := ih b (by simp)
      refine ⟨fun x m => ?_, ?_⟩
      · simp only [T.toks, T.tokss, Hd.toks, List.mem_cons, List.mem_append, List.not_mem_nil, or_false] at m
        rcases m with rfl | rfl | rfl | rfl | m | rfl | m | rfl
        all_goals first | exact q _ (by decide +kernel) | exact fine_name iw.2 | exact ha.1 x m | exact hb.1 x m
      · simp only [T.toks, T.tokss, Hd.toks, T.size, T.sizes, List.length_cons, List.length_append, List.length_nil]
        omega
    | rc n =>
      simp only [okHd] at iw
      obtain ⟨a, b, rfl⟩ := len_two iw.1
      have ha := ih a (by simp)
      have hb := ih b (by simp)
      refine ⟨fun x m => ?_, ?_⟩
      · simp only [T.toks, T.tokss, Hd.toks, List.mem_cons, List.mem_append, List.not_mem_nil, or_false] at m
        rcases m with rfl | rfl | rfl | rfl | m | rfl | m | rfl
        all_goals first | exact q _ (by decide +kernel) | exact fine_name iw.2 | exact ha.1 x m | exact hb.1 x m
      · simp only [T.toks, T.tokss, Hd.toks, T.size, T.sizes, List.length_cons, List.length_append, List.length_nil]
        omega
    | wth n =>
      simp only [okHd] at iw
      obtain ⟨a, b, rfl⟩ := len_two iw.1
      have ha := ih a (by simp)
      have hb := ih b (by simp)
      refine ⟨fun x m => ?_, ?_⟩
      · simp only [T.toks, T.tokss, Hd.toks, List.mem_cons, List.mem_append, List.not_mem_nil, or_false] at m
        rcases m with rfl | m | rfl | rfl | rfl | m | rfl
        all_goals first | exact q _ (by decide +kernel) | exact fine_name iw.2 | exact ha.1 x m | exact hb.1 x m
      · simp only [T.toks, T.tokss, Hd.toks, T.size, T.sizes, List.length_cons, List.length_append, List.length_nil]
        omega
termination_by t => sizeOf t
decreasing_by
  all_goals simp_wf
  all_goals (have := List.sizeOf_lt_of_mem m; omega)
theorem sum_le {l : List Str} {m : Nat} (h : ∀ x ∈ l, x.length ≤ m) : (l.map (·.length)).sum ≤ l.length * m := by
  induction l with
  | nil => simp
  | cons a r ih =>
    have h1 := h a List.mem_cons_self
    have h2 := ih fun x k => h x (List.mem_cons_of_mem _ k)
    simp only [List.map_cons, List.sum_cons, List.length_cons, Nat.succ_mul]
    omega
/-- the text of a term -/
def T.text (t : T) : Str := Txt.join " " t.wds
theorem wds_len {t : T} (w : Wt t) (hs : t.size ≤ 400) : t.wds.length ≤ 3600 := by
  have := (toks_fine t w).2
  unfold T.wds
  rw [List.length_map]
  omega
theorem wds_fine {t : T} (w : Wt t) : ∀ x ∈ t.wds, fineW x := by
  intro x m
  obtain ⟨y, my, rfl⟩ := List.mem_map.mp m
  exact (toks_fine t w).1 y my
theorem text_len {t : T} (w : Wt t) (hs : t.size ≤ 400) : t.text.length ≤ 120000 := by
  unfold T.text
  rw [join_eq]
  have h1 := PySem.StrLaws.join_length_le (" " : Str) t.wds
  have h2 := sum_le (m := 32) (l := t.wds) fun x m => (wds_fine w x m).1
  have h3 := wds_len w hs
  have h4 : (" " : Str).length = 1 := rfl
  rw [h4] at h1
  omega
theorem text_split {t : T} (w : Wt t) : Txt.split t.text " " = t.wds := by
  refine split_join (s := 32) (S := []) rfl (by decide +kernel) ?_ ?_
  · obtain ⟨x, r, e⟩ := wds_cons (toks_ok t w).2
    rw [e]
    simp
  · intro x m
    obtain ⟨y, my, rfl⟩ := List.mem_map.mp m
    exact ((toks_ok t w).1 y my).1.2
def spRead (K : PySem.W.Frag) : Sp := fun vs H Q _ => ∃ t : T, vs = [.str t.text] ∧ Wt t ∧ Pure t ∧ t.size ≤ 400 ∧ t.deep ≤ 100 ∧ ∀ v H', Same H H' → Tm K H' v t → Q v H'
abbrev s_read_term : Stmt := topS 67
abbrev N_read_term : List Str := ["text", "term"]
theorem sc_read_term : FnScope N_read_term ["text"] (defScope s_read_term) := ⟨rfl, rfl, rfl, by decide +kernel, rfl, by decide +kernel, by decide +kernel⟩
section
variable {P : Program} {w : World} {K : PySem.W.Frag} {mg : Str → Option Value} {base : Heap}
theorem ok_read_term (S : Stands K mg "read_term" s_read_term ["text"]) (Z : Blt mg) (H_term_of_words : DefOk P w K mg base CX0 6 "term_of_words" ["words"] (spToW K)) (H_check_term : DefOk P w K mg base CX0 8 "check_term" ["value"] (spChecked K)) : DefOkF P w K mg base CX0 9 "read_term" s_read_term ["text"] (spRead K) := by
  have z_isinstance := Z.isinstance
  have z_str := Z.str
  obtain ⟨f, fd, F, hm, hb⟩ := S
  obtain ⟨f_term_of_words, fd_term_of_words, G_term_of_words, m_term_of_words, k_term_of_words, b_term_of_words⟩ := H_term_of_words
  obtain ⟨f_check_term, fd_check_term, G_check_term, m_check_term, k_check_term, b_check_term⟩ := H_check_term
  refine ⟨f, fd, F, ?_, hm, F.kp, hb⟩
  have nd := sc_read_term.nd
  refine F.ok sc_read_term (fun vs H Q E h => ?_) (fun cdv A outer s0 H vs Q E hr h => ?_)
  · obtain ⟨t, rfl, _⟩ := h
    rfl
  obtain ⟨t, rfl, hw, hp_, hs, hd, q⟩ := h
  refine ⟨_, (pss_cons (ps_if (pt_not (pt_val (pe_callB call_isi (by rfl) z_isinstance (by decide +kernel) (pa_cons (pv 0) (pa_cons (pe_bltn (v := .ty "str") (by rfl) z_str (by decide +kernel) rfl) pa_nil))))) (pss_one (ps_never)) pss_nil)
      (pss_cons (ps_set (i := 1) nd rfl (Or.inl rfl) (pe_call G_term_of_words (hr.mono (by decide)) rfl m_term_of_words k_term_of_words b_term_of_words .nil pass0 (pa_cons (pe_bm PySem.F.plainAttrs_str PySem.F.slot_str_split PySem.F.type_str_split mt_split (pv 0) (pa_cons pe_str pa_nil)) pa_nil)))
      (pss_cons (ps_expr (pe_call G_check_term (hr.mono (by decide)) rfl m_check_term k_check_term b_check_term .nil pass0 (pa_cons (pv 1) pa_nil)))
      (pss_one (ps_ret (pv 1)))))), ?_⟩
  walk_at "rd"
  refine ⟨_, .ty "str", _, _, true, rfl, .ty "str", .base (.str _), kit_ty (by decide +kernel), _, rfl, ?_⟩
  refine ifF rfl ?_
  walk_at "rd"
  have hsl : 200000 < sizeLine := by decide +kernel
  refine ⟨by have := text_len hw hs; omega, ?_⟩
  intro p hp
  have S1 := same_new hp (.lst ((Txt.split t.text " ").map V.str))
  have hp1 := @upd_same H p (.lst ((Txt.split t.text " ").map V.str))
  rw [text_split hw] at S1 hp1 ⊢
  generalize upd H p (.lst (t.wds.map V.str)) = H1 at *
  walk_at "rd"
  refine ⟨p, t.wds, t, rfl, SqL.of hp1, read_all hw hp_, by have := wds_len hw hs; omega, fun x m => ⟨by have := (wds_fine hw x m).1; omega, (wds_fine hw x m).2⟩, fun v H2 S2 hT => ?_⟩
  walk_at "rd"
  refine ⟨v, t, H2, rfl, Same.refl _, hT, hw, hs, hd, fun H3 S3 => ?_⟩
  walk_at "rd"
  exact q v H3 ((S1.trans S2).trans S3) (hT.same S3)
end
end Vt


set_option Elab.async false
set_option linter.all false
set_option maxRecDepth 100000
set_option maxHeartbeats 4000000

namespace Vt
open PySem PySem.Spec PyProof.Rows L2 TL
/-! ### the pieces of a node -/
inductive Pc where
  | w (x : Str) | nm (x : Str) | num (k : Int) | tm (t : T)
def Pc.toks : Pc → List Wd
  | .w x => [wd x] | .nm x => [nmW x] | .num k => [wd (intS k)] | .tm t => t.toks
def ptoks : List Pc → List Wd
  | [] => []
  | p :: r => p.toks ++ ptoks r
theorem ptoks_app : ∀ a b : List Pc, ptoks (a ++ b) = ptoks a ++ ptoks b
  | [], b => rfl
  | p :: r, b => by simp only [List.cons_append, ptoks, ptoks_app r b, List.append_assoc]
/-- groups with commas between them -/
def joinP : List (List Pc) → List Pc
  | [] => []
  | [a] => a
  | a :: b :: r => a ++ .w "," :: joinP (b :: r)
theorem joinP_toks : ∀ gs : List (List Pc), ptoks (joinP gs) = sepd (gs.map ptoks)
  | [] => rfl
  | [a] => rfl
  | a :: b :: r => by
    have ih := joinP_toks (b :: r)
    simp only [joinP, List.map_cons, sepd, ptoks_app, ptoks, Pc.toks] at ih ⊢
    rw [ih]
    rfl
def fldP : List Str → List T → List (List Pc)
  | n :: ns, t :: r => [.nm n, .w "=", .tm t] :: fldP ns r
  | _, _ => []
theorem fldP_toks : ∀ (ns : List Str) (ks : List T), (fldP ns ks).map ptoks = flds ns (T.tokss ks)
  | n :: ns, t :: r => by simp only [fldP, List.map_cons, T.tokss, flds, fldP_toks ns r, ptoks, Pc.toks, List.append_nil]; rfl
  | [], _ => by simp [fldP, flds]
  | _ :: _, [] => by simp [fldP, T.tokss, flds]
def T.pcs : T → List Pc
  | .node (.var n) _ => [.nm n]
  | .node (.int k) _ => [.w (intS k)]
  | .node (.bool b) _ => [.w (if b then "true" else "false")]
  | .node (.fn n) [a] => [.w "(", .w "fun", .nm n, .w ".", .tm a, .w ")"]
  | .node .app [a, b] => [.w "(", .tm a, .tm b, .w ")"]
  | .node (.lt n) [a, b] => [.w "(", .w "let", .nm n, .w "=", .tm a, .w "in", .tm b, .w ")"]
  | .node (.rc n) [a, b] => [.w "(", .w "rec", .nm n, .w "=", .tm a, .w "in", .tm b, .w ")"]
  | .node .cond [a, b, c] => [.w "(", .w "if", .tm a, .w "then", .tm b, .w "else", .tm c, .w ")"]
  | .node .tup ks => .w "(" :: (joinP (ks.map fun t => [.tm t]) ++ [.w ")"])
  | .node (.part k z) [a] => [.w "(", .num k, .w "of", .num z, .tm a, .w ")"]
  | .node (.record ls) ks => .w "{" :: (joinP (fldP ls ks) ++ [.w "}"])
  | .node (.field n) [a] => [.w "(", .tm a, .w ".", .nm n, .w ")"]
  | .node (.wth n) [a, b] => [.w "(", .tm a, .w "with", .nm n, .w "=", .tm b, .w ")"]
  | _ => []
theorem tokss_map : ∀ ks : List T, (ks.map fun t => [Pc.tm t]).map ptoks = T.tokss ks
  | [] => rfl
  | t :: r => by simp only [List.map_cons, T.tokss, tokss_map r, ptoks, Pc.toks, List.append_nil]
theorem pcs_toks : ∀ {t : T}, Wt t → ptoks t.pcs = t.toks
  | .node h ks, w => by
    have iw := w.hd
    cases h with
    | var n => rfl
    | int k => rfl
    | bool b => rfl
    | tup => simp only [T.pcs, ptoks, ptoks_app, joinP_toks, tokss_map, T.toks, Hd.toks, Pc.toks, List.cons_append, List.nil_append]
    | record ls => simp only [T.pcs, ptoks, ptoks_app, joinP_toks, fldP_toks, T.toks, Hd.toks, Pc.toks, List.cons_append, List.nil_append]
    | cond =>
      simp only [okHd] at iw
      obtain ⟨a, b, c, rfl⟩ := len_three iw
      simp [T.pcs, ptoks, T.toks, T.tokss, Hd.toks, Pc.toks]
    | app =>
      simp only [okHd] at iw
      obtain ⟨a, b, rfl⟩ := len_two iw
      simp [T.pcs, ptoks, T.toks, T.tokss, Hd.toks, Pc.toks]
    | fn n =>
      simp only [okHd] at iw
      obtain ⟨a, rfl⟩ := List.length_eq_one_iff.mp iw.1
      simp [T.pcs, ptoks, T.toks, T.tokss, Hd.toks, Pc.toks]
    | field n =>
      simp only [okHd] at iw
      obtain ⟨a, rfl⟩ := List.length_eq_one_iff.mp iw.1
      simp [T.pcs, ptoks, T.toks, T.tokss, Hd.toks, Pc.toks]
    | part k z =>
      simp only [okHd] at iw
      obtain ⟨a, rfl⟩ := List.length_eq_one_iff.mp iw.1
      simp [T.pcs, ptoks, T.toks, T.tokss, Hd.toks, Pc.toks]
    | lt n =>
      simp only [okHd] at iw
      obtain ⟨a, b, rfl⟩ := len_two iw.1
      simp [T.pcs, ptoks, T.toks, T.tokss, Hd.toks, Pc.toks]
    | rc n =>
      simp only [okHd] at iw
      obtain ⟨a, b, rfl⟩ := len_two iw.1
      simp [T.pcs, ptoks, T.toks, T.tokss, Hd.toks, Pc.toks]
    | wth n =>
      simp only [okHd] at iw
      obtain ⟨a, b, rfl⟩ := len_two iw.1
      simp [T.pcs, ptoks, T.toks, T.tokss, Hd.toks, Pc.toks]
/-- a piece in the heap -/
def PcR (K : PySem.W.Frag) (G : Hp) (v : V) (p : Pc) : Prop := ∃ a b u, v = .ref a ∧ SqT K G a [.bl b, u] ∧ (match p with
  | .w x => b = true ∧ u = .str x
  | .nm x => b = false ∧ u = .str x
  | .num k => b = false ∧ u = .int k
  | .tm t => b = false ∧ Tm K G u t)
theorem PcR.same {K : PySem.W.Frag} {G G' : Hp} {v : V} {p : Pc} (s : Same G G') (h : PcR K G v p) : PcR K G' v p := by
  obtain ⟨a, b, u, e, h1, h2⟩ := h
  refine ⟨a, b, u, e, Same.tupS s h1, ?_⟩
  cases p with
  | tm t => exact ⟨h2.1, h2.2.same s⟩
  | _ => exact h2
/-- addresses that stand in a heap -/
def Old (as : List Addr) (H : Hp) : Prop := ∀ b ∈ as, H b ≠ none
theorem Old.same {as : List Addr} {H H' : Hp} (o : Old as H) (s : Same H H') : Old as H' := fun b m e => by
  cases z : H b with
  | none => exact o b m z
  | some y => rw [s _ _ z] at e; cases e
theorem Old.out {as : List Addr} {H : Hp} (o : Old as H) {p : Addr} (h : H p = none) : p ∉ as := fun m => o p m h
theorem offs_less {D : Addr} {as : List Addr} {H : Hp} : Same (offs (D :: as) H) (offs as H) := fun b o e => by
  by_cases h : b ∈ D :: as
  · rw [offs_in h] at e; cases e
  · rw [offs_out h] at e
    rw [offs_out fun z => h (List.mem_cons_of_mem _ z)]
    exact e
theorem offs_new {D : Addr} {as : List Addr} {H H' : Hp} (s : Same H H') (hD : H D = none) : Same (offs as H) (offs (D :: as) H') := fun b o e => by
  by_cases h : b ∈ as
  · rw [offs_in h] at e; cases e
  · rw [offs_out h] at e
    have nb : b ≠ D := fun z => by rw [z, hD] at e; cases e
    rw [offs_out (by simp [nb, h])]
    exact s _ _ e
/-- a list of groups, each of which is a list of pieces -/
def spListP (K : PySem.W.Frag) : Sp := fun vs H Q _ => ∃ (x y : Str) (l : Addr) (gs : List Addr) (ps : List (List Pc)) (as : List Addr), vs = [.str x, .ref l, .str y] ∧ Old as H ∧ SqL K H l (gs.map V.ref) ∧ gs.length ≤ 12 ∧
  Al (fun (g : Addr) (p : List Pc) => ∃ us, SqL K H g us ∧ Al (PcR K (offs as H)) us p ∧ us.length ≤ 3) gs ps ∧
  ∀ (r : Addr) (H' : Hp) (us : List V), Same H H' → H r = none → H' r = some (.lst us) → Al (PcR K (offs as H')) us (.w x :: (joinP ps ++ [.w y])) → Q (.ref r) H'
theorem joinP_snoc : ∀ (a : List (List Pc)) (b : List Pc), joinP (a ++ [b]) = joinP a ++ ((if a.length = 0 then [] else [.w ","]) ++ b)
  | [], b => rfl
  | [a], b => rfl
  | a :: c :: r, b => by
    have ih := joinP_snoc (c :: r) b
    simp only [List.cons_append, joinP, List.length_cons] at ih ⊢
    rw [ih]
    simp
abbrev s_list_pieces : Stmt := topS 48
abbrev N_list_pieces : List Str := ["begin", "groups", "end", "pieces", "k", "group"]
theorem sc_list_pieces : FnScope N_list_pieces ["begin", "groups", "end"] (defScope s_list_pieces) := ⟨rfl, rfl, rfl, by decide +kernel, rfl, by decide +kernel, by decide +kernel⟩
section
variable {P : Program} {w : World} {K : PySem.W.Frag} {mg : Str → Option Value} {base : Heap}
theorem ok_list_pieces (S : Stands K mg "list_pieces" s_list_pieces ["begin", "groups", "end"]) (Z : Blt mg) : DefOk P w K mg base CX0 1 "list_pieces" ["begin", "groups", "end"] (spListP K) := by
  have z_enumerate := Z.enumerate
  obtain ⟨f, fd, F, hm, hb⟩ := S
  refine ⟨f, fd, ?_, hm, F.kp, hb⟩
  have nd := sc_list_pieces.nd
  refine F.ok sc_list_pieces (fun vs H Q E h => ?_) (fun cdv A outer s0 H vs Q E hr h => ?_)
  · obtain ⟨x, y, l, gs, ps, as, rfl, _⟩ := h
    rfl
  obtain ⟨x, y, l, gs, ps, as, rfl, hold, hl, hn, hp, q⟩ := h
  refine ⟨_, (pss_cons (ps_set (i := 3) nd rfl (Or.inl rfl) (pe_lst (pa_cons (pe_tup (pa_cons pe_bl (pa_cons (pv 0) pa_nil))) pa_nil)))
      (pss_cons (ps_for PassesOwn.never rfl (pi_enum (by rfl) z_enumerate (pa_cons (pv 1) pa_nil)) (pg_tup rfl (pgs_cons (pg_name (i := 4) nd rfl (Or.inl rfl)) (pgs_cons (pg_name (i := 5) nd rfl (Or.inl rfl)) pgs_nil))) (C8.pss_cut (ps_if (pt_cmpR op_gt (pv 4) pe_int (nomark _)) (pss_one (ps_expr (pe_bm PySem.F.plainAttrs_list PySem.F.slot_list_append PySem.F.type_list_append mt_append (pv 3) (pa_cons (pe_tup (pa_cons pe_bl (pa_cons pe_str pa_nil))) pa_nil)))) pss_nil)
      (pss_one (ps_expr (pe_bm PySem.F.plainAttrs_list PySem.F.slot_list_extend PySem.F.type_list_extend mt_extA (pv 3) (pa_cons (pv 5) pa_nil))))))
      (pss_one (ps_ret (pe_op op_cat (pv 3) (pe_lst (pa_cons (pe_tup (pa_cons pe_bl (pa_cons (pv 2) pa_nil))) pa_nil))))))), ?_⟩
  have hlen : 6000 < sizeLine := by decide +kernel
  walk_at "rd"
  intro p0 hp0
  have S0 := same_new hp0 (.tup [V.bl true, V.str x])
  have h0 := @upd_same H p0 (.tup [V.bl true, V.str x])
  generalize upd H p0 (.tup [V.bl true, V.str x]) = H0 at *
  walk_at "rd"
  intro D hD
  have S1 := same_new hD (.lst [V.ref p0])
  have hD1 := @upd_same H0 D (.lst [V.ref p0])
  have h1 := S1 _ _ h0
  have DH : H D = none := by
    cases e : H D with
    | none => rfl
    | some y => have := S0 _ _ e; rw [hD] at this; cases this
  have n0 : p0 ∉ D :: as := fun m => by
    rcases List.mem_cons.mp m with m | m
    · rw [m, hD] at h0
      cases h0
    · exact hold.out hp0 m
  have SH := S0.trans S1
  generalize upd H0 D (.lst [V.ref p0]) = H1 at *
  walk_at "rd"
  have a0 : Al (PcR K (offs (D :: as) H1)) [V.ref p0] [.w x] := ⟨rfl, fun i v p hv hpp => by
    cases i with
    | zero =>
      simp at hv hpp
      subst hv
      subst hpp
      exact ⟨p0, true, .str x, rfl, SqT.of (by rw [offs_out n0]; exact h1), rfl, rfl⟩
    | succ i => simp at hv⟩
  refine ⟨l, gs.map V.ref, rfl, SH.seq hl, ?_⟩
  refine for_it (walk_enum (K := K) (a := l) (xs := gs.map V.ref)) (fun i σ X => ∃ (us : List V) (s4 s5 : Option V), σ = [some (.str x), some (.ref l), some (.str y), some (.ref D), s4, s5] ∧ Same H X ∧ X D = some (.lst us) ∧ us.length ≤ 1 + 4 * i ∧
      Al (PcR K (offs (D :: as) X)) us (.w x :: joinP (ps.take i)))
    ⟨[.ref p0], none, none, rfl, SH, hD1, by simp, a0⟩ (fun i σ X hi ⟨us, s4, s5, _, g1, _⟩ => g1.seq hl) ?_ ?_
  · rintro i x' σ X X' hi ⟨us, s4, s5, rfl, g1, g2, g3, g4⟩ ⟨T0, y', z, rfl, hT0, rfl, hy, hz⟩
    cases hy
    obtain ⟨g, hg1, hg2, rfl⟩ := get_map hz
    have hlt : i < gs.length := (List.getElem?_eq_some_iff.mp hg2).1
    have hlp : i < ps.length := by rw [← hp.1]; exact hlt
    have hpi : ps[i]? = some (ps[i]'hlp) := List.getElem?_eq_getElem hlp
    obtain ⟨gu, e1, e2, e3⟩ := hp.2 i g _ hg2 hpi
    have htk : ps.take (i + 1) = ps.take i ++ [ps[i]'hlp] := by rw [List.take_add_one, hpi]; rfl
    generalize ps[i]'hlp = pi at *
    have ST := same_new hT0 (.tup [V.int (i : Int), V.ref g])
    refine ⟨T0, _, rfl, SqT.of upd_same, rfl, ?_⟩
    refine ⟨_, _, rfl, ⟨_, _, rfl, rfl, ?_⟩⟩
    have g1' := g1.trans ST
    have g2' := ST _ _ g2
    have g4' : Al (PcR K (offs (D :: as) (upd X T0 (.tup [V.int (i : Int), V.ref g])))) us (.w x :: joinP (ps.take i)) := g4.mono fun a b _ z => z.same (ST.keepA (as := D :: as)).offs
    generalize upd X T0 (.tup [V.int (i : Int), V.ref g]) = X1 at *
    refine ⟨fun σ' X' => σ' = [some (.str x), some (.ref l), some (.str y), some (.ref D), some (.int (i : Int)), some (.ref g)] ∧ ∃ us', Same H X' ∧ X' D = some (.lst us') ∧ us'.length ≤ 2 + 4 * i - 1 + (if i = 0 then 0 else 1) ∧ Al (PcR K (offs (D :: as) X')) us' (.w x :: (joinP (ps.take i) ++ (if i = 0 then [] else [.w ","]))), ?_, ?_⟩
    · walk_at "rd"
      by_cases h0i : i = 0
      · subst h0i
        refine ifF (by decide) ?_
        walk_at "rd"
        exact ⟨us, g1', g2', by simp; omega, by simpa using g4'⟩
      · refine ifT (decide_eq_true (by omega)) ?_
        walk_at "rd"
        refine ⟨.inl ⟨rfl, _, SqL.of g2'⟩, ?_⟩
        walk_at "rd"
        intro p1 hp1
        have S2 := same_new hp1 (.tup [V.bl true, V.str ","])
        have np1 : p1 ∉ D :: as := fun m => by
          rcases List.mem_cons.mp m with m | m
          · rw [m, g2'] at hp1
            cases hp1
          · exact (hold.same g1').out hp1 m
        refine ⟨D, us, _, rfl, rfl, S2 _ _ g2', by omega, ?_⟩
        have hp2 : (upd (upd X1 p1 (.tup [V.bl true, V.str ","])) D (.lst (us ++ [V.ref p1]))) p1 = some (.tup [V.bl true, V.str ","]) := by rw [upd_ne (fun z => np1 (by simp [z]))]; exact upd_same
        have kD : KeepA [D] X1 (upd (upd X1 p1 (.tup [V.bl true, V.str ","])) D (.lst (us ++ [V.ref p1]))) := S2.keepA.trans (KeepA.wr (by simp))
        refine ⟨rfl, us ++ [.ref p1], fun b o e => ?_, upd_same, by simp [h0i]; omega, ?_⟩
        · have nb : b ≠ D := fun z => by rw [z, DH] at e; cases e
          exact kD b o (by simp [nb]) (g1' b o e)
        · rw [if_neg h0i, ← List.cons_append]
          refine (g4'.mono fun a b _ z => z.same (kD.mono (bs := D :: as) (by simp)).offs).snoc ⟨p1, true, .str ",", rfl, SqT.of (by rw [offs_out np1]; exact hp2), rfl, rfl⟩
    · rintro σ' X' ⟨rfl, us', k1, k2, k3, k4⟩
      walk_at "rd"
      refine ⟨.inl ⟨rfl, _, SqL.of k2⟩, ?_⟩
      walk_at "rd"
      have hu3 : us'.length ≤ 100 := by
        by_cases z : i = 0
        · rw [if_pos z] at k3; omega
        · rw [if_neg z] at k3; omega
      refine ⟨D, g, us', gu, rfl, rfl, k2, .inl (k1.seq e1), by omega, ?_⟩
      have kD : KeepA [D] X' (upd X' D (.lst (us' ++ gu))) := KeepA.wr (by simp)
      have sH : Same H (upd X' D (.lst (us' ++ gu))) := fun b o e => by
        have nb : b ≠ D := fun z => by rw [z, DH] at e; cases e
        exact kD b o (by simp [nb]) (k1 b o e)
      have sG := offs_new (as := as) sH DH
      refine ⟨us' ++ gu, _, _, rfl, sH, upd_same, ?_, ?_⟩
      · rw [List.length_append]
        by_cases z : i = 0
        · rw [if_pos z] at k3; omega
        · rw [if_neg z] at k3; omega
      · rw [htk, joinP_snoc]
        have hlen0 : (ps.take i).length = i := by rw [List.length_take]; omega
        rw [hlen0, ← List.append_assoc, ← List.cons_append]
        exact (k4.mono fun a b _ z => z.same (kD.mono (bs := D :: as) (by simp)).offs).app (e2.mono fun a b _ z => z.same sG)
  · rintro σ X ⟨us, s4, s5, rfl, g1, g2, g3, g4⟩
    rw [List.length_map] at g3 g4
    rw [List.take_of_length_le (by rw [hp.1]; exact Nat.le_refl _)] at g4
    walk_at "rd"
    intro p1 hp1
    have S2 := same_new hp1 (.tup [V.bl true, V.str y])
    have h1' := @upd_same X p1 (.tup [V.bl true, V.str y])
    have g2' := S2 _ _ g2
    generalize upd X p1 (.tup [V.bl true, V.str y]) = X1 at *
    walk_at "rd"
    intro p2 hp2
    have S3 := same_new hp2 (.lst [V.ref p1])
    have h2' := @upd_same X1 p2 (.lst [V.ref p1])
    have g2'' := S3 _ _ g2'
    have h1'' := S3 _ _ h1'
    generalize upd X1 p2 (.lst [V.ref p1]) = X2 at *
    walk_at "rd"
    refine ⟨D, p2, us, [.ref p1], rfl, rfl, g2'', h2', sz (by simp; omega), fun p3 hp3 => ?_⟩
    have S4 := same_new hp3 (.lst (us ++ [V.ref p1]))
    have SA : Same X (upd X2 p3 (.lst (us ++ [V.ref p1]))) := (S2.trans S3).trans S4
    have hD3 : H p3 = none := by
      cases e : H p3 with
      | none => rfl
      | some y => have := S3 _ _ (S2 _ _ (g1 _ _ e)); rw [hp3] at this; cases this
    refine q p3 _ (us ++ [.ref p1]) (g1.trans SA) hD3 upd_same ?_
    have := (g4.mono fun a b _ z => (z.same offs_less).same (SA.keepA (as := as)).offs).snoc (x := V.ref p1) (y := Pc.w y) ⟨p1, true, .str y, rfl, SqT.of (by rw [offs_out ((hold.same g1).out hp1)]; exact S4 _ _ h1''), rfl, rfl⟩
    exact this
end
end Vt


set_option Elab.async false
set_option linter.all false
set_option maxRecDepth 100000
set_option maxHeartbeats 4000000

namespace Vt
open PySem PySem.Spec PyProof.Rows L2 TL
/-! ### the pieces of a node, as the program has them -/
theorem Al.cons {α β : Type} {R : α → β → Prop} {x : α} {y : β} {xs : List α} {ys : List β} (r : R x y) (h : Al R xs ys) : Al R (x :: xs) (y :: ys) :=
  ⟨by simp [h.1], fun i a b ha hb => by
    cases i with
    | zero => simp at ha hb; subst ha; subst hb; exact r
    | succ i => exact h.2 i a b (by simpa using ha) (by simpa using hb)⟩
/-- how nodes are written: words, and places in the node -/
def wrV : Str → List V
  | x => if x = "var" then [.int 1] else if x = "fun" then [.str "(", .str "fun", .int 1, .str ".", .int 2, .str ")"] else if x = "app" then [.str "(", .int 1, .int 2, .str ")"]
    else if x = "let" then [.str "(", .str "let", .int 1, .str "=", .int 2, .str "in", .int 3, .str ")"] else if x = "rec" then [.str "(", .str "rec", .int 1, .str "=", .int 2, .str "in", .int 3, .str ")"]
    else if x = "if" then [.str "(", .str "if", .int 1, .str "then", .int 2, .str "else", .int 3, .str ")"] else if x = "part" then [.str "(", .int 1, .str "of", .int 2, .int 3, .str ")"]
    else if x = "field" then [.str "(", .int 1, .str ".", .int 2, .str ")"] else [.str "(", .int 1, .str "with", .int 2, .str "=", .int 3, .str ")"]
theorem wr_len (x : Str) : (wrV x).length ≤ 8 := by
  unfold wrV
  by_cases h0 : x = "var"
  · rw [if_pos h0]; exact Nat.le_of_ble_eq_true rfl
  rw [if_neg h0]
  by_cases h1 : x = "fun"
  · rw [if_pos h1]; exact Nat.le_of_ble_eq_true rfl
  rw [if_neg h1]
  by_cases h2 : x = "app"
  · rw [if_pos h2]; exact Nat.le_of_ble_eq_true rfl
  rw [if_neg h2]
  by_cases h3 : x = "let"
  · rw [if_pos h3]; exact Nat.le_of_ble_eq_true rfl
  rw [if_neg h3]
  by_cases h4 : x = "rec"
  · rw [if_pos h4]; exact Nat.le_of_ble_eq_true rfl
  rw [if_neg h4]
  by_cases h5 : x = "if"
  · rw [if_pos h5]; exact Nat.le_of_ble_eq_true rfl
  rw [if_neg h5]
  by_cases h6 : x = "part"
  · rw [if_pos h6]; exact Nat.le_of_ble_eq_true rfl
  rw [if_neg h6]
  by_cases h7 : x = "field"
  · rw [if_pos h7]; exact Nat.le_of_ble_eq_true rfl
  rw [if_neg h7]
  exact Nat.le_of_ble_eq_true rfl
def Hd.isWr : Hd → Bool | .int _ => false | .bool _ => false | .tup => false | .record _ => false | _ => true
structure Writ (w : World) (K : PySem.W.Frag) (mg : Str → Option Value) (D : Addr) (es : Array DictEntry) (n : Nat) : Prop where
  at_ : mg "WRITTEN" = some (.ref D)
  kd : KDict K w D es n
  fn : ∀ h : Hd, h.isWr = true → ∃ a, PySem.W.nsIn K D h.word = some (some (.ref a)) ∧ ∀ H, SqT K H a (wrV h.word)
/-- what a place in a node holds -/
def Holds (K : PySem.W.Frag) (G : Hp) (u : V) : Pc → Prop
  | .w _ => False
  | .nm x => u = .str x
  | .num k => u = .int k
  | .tm t => Tm K G u t
/-- a piece as it is written, and what it is in a node with these items -/
def Corr (K : PySem.W.Frag) (G : Hp) (xs : List V) (v : V) (p : Pc) : Prop := (∃ x, v = .str x ∧ p = .w x) ∨ ∃ (j : Nat) (u : V), v = .int j ∧ xs[j]? = some u ∧ Holds K G u p
theorem corr_of {K : PySem.W.Frag} {G : Hp} {a : Addr} {t : T} {xs : List V} (hT : Tm K G (.ref a) t) (hw : t.hd.isWr = true) : ∃ xs, SqT K G a xs ∧ Al (Corr K G xs) (wrV t.hd.word) t.pcs := by
  have nil : ∀ {xs : List V}, Al (Corr K G xs) [] [] := ⟨rfl, fun i a b h => by simp at h⟩
  cases hT with
  | var h => exact ⟨_, h, Al.cons (.inr ⟨1, _, rfl, rfl, rfl⟩) nil⟩
  | fn h ha => exact ⟨_, h, Al.cons (.inl ⟨_, rfl, rfl⟩) (Al.cons (.inl ⟨_, rfl, rfl⟩) (Al.cons (.inr ⟨1, _, rfl, rfl, rfl⟩) (Al.cons (.inl ⟨_, rfl, rfl⟩) (Al.cons (.inr ⟨2, _, rfl, rfl, ha⟩) (Al.cons (.inl ⟨_, rfl, rfl⟩) nil)))))⟩
  | app h ha hb => exact ⟨_, h, Al.cons (.inl ⟨_, rfl, rfl⟩) (Al.cons (.inr ⟨1, _, rfl, rfl, ha⟩) (Al.cons (.inr ⟨2, _, rfl, rfl, hb⟩) (Al.cons (.inl ⟨_, rfl, rfl⟩) nil)))⟩
  | lt h ha hb => exact ⟨_, h, Al.cons (.inl ⟨_, rfl, rfl⟩) (Al.cons (.inl ⟨_, rfl, rfl⟩) (Al.cons (.inr ⟨1, _, rfl, rfl, rfl⟩) (Al.cons (.inl ⟨_, rfl, rfl⟩) (Al.cons (.inr ⟨2, _, rfl, rfl, ha⟩) (Al.cons (.inl ⟨_, rfl, rfl⟩) (Al.cons (.inr ⟨3, _, rfl, rfl, hb⟩) (Al.cons (.inl ⟨_, rfl, rfl⟩) nil)))))))⟩
  | rc h ha hb => exact ⟨_, h, Al.cons (.inl ⟨_, rfl, rfl⟩) (Al.cons (.inl ⟨_, rfl, rfl⟩) (Al.cons (.inr ⟨1, _, rfl, rfl, rfl⟩) (Al.cons (.inl ⟨_, rfl, rfl⟩) (Al.cons (.inr ⟨2, _, rfl, rfl, ha⟩) (Al.cons (.inl ⟨_, rfl, rfl⟩) (Al.cons (.inr ⟨3, _, rfl, rfl, hb⟩) (Al.cons (.inl ⟨_, rfl, rfl⟩) nil)))))))⟩
  | cond h ha hb hc => exact ⟨_, h, Al.cons (.inl ⟨_, rfl, rfl⟩) (Al.cons (.inl ⟨_, rfl, rfl⟩) (Al.cons (.inr ⟨1, _, rfl, rfl, ha⟩) (Al.cons (.inl ⟨_, rfl, rfl⟩) (Al.cons (.inr ⟨2, _, rfl, rfl, hb⟩) (Al.cons (.inl ⟨_, rfl, rfl⟩) (Al.cons (.inr ⟨3, _, rfl, rfl, hc⟩) (Al.cons (.inl ⟨_, rfl, rfl⟩) nil)))))))⟩
  | part h ha => exact ⟨_, h, Al.cons (.inl ⟨_, rfl, rfl⟩) (Al.cons (.inr ⟨1, _, rfl, rfl, rfl⟩) (Al.cons (.inl ⟨_, rfl, rfl⟩) (Al.cons (.inr ⟨2, _, rfl, rfl, rfl⟩) (Al.cons (.inr ⟨3, _, rfl, rfl, ha⟩) (Al.cons (.inl ⟨_, rfl, rfl⟩) nil)))))⟩
  | field h ha => exact ⟨_, h, Al.cons (.inl ⟨_, rfl, rfl⟩) (Al.cons (.inr ⟨1, _, rfl, rfl, ha⟩) (Al.cons (.inl ⟨_, rfl, rfl⟩) (Al.cons (.inr ⟨2, _, rfl, rfl, rfl⟩) (Al.cons (.inl ⟨_, rfl, rfl⟩) nil))))⟩
  | wth h ha hb => exact ⟨_, h, Al.cons (.inl ⟨_, rfl, rfl⟩) (Al.cons (.inr ⟨1, _, rfl, rfl, ha⟩) (Al.cons (.inl ⟨_, rfl, rfl⟩) (Al.cons (.inr ⟨2, _, rfl, rfl, rfl⟩) (Al.cons (.inl ⟨_, rfl, rfl⟩) (Al.cons (.inr ⟨3, _, rfl, rfl, hb⟩) (Al.cons (.inl ⟨_, rfl, rfl⟩) nil))))))⟩
  | _ => cases hw
theorem wr_no {h : Hd} (w : h.isWr = true) : decide (V.str h.word = V.str "int") = false ∧ decide (V.str h.word = V.str "bool") = false ∧ decide (V.str h.word = V.str "tuple") = false ∧ decide (V.str h.word = V.str "record") = false := by
  cases h <;> first | (cases w; done) | exact ⟨by kernel_rfl, by kernel_rfl, by kernel_rfl, by kernel_rfl⟩
/-- a group of pieces in the heap -/
def GrR (K : PySem.W.Frag) (G : Hp) (g : Addr) (p : List Pc) : Prop := ∃ us, SqL K G g us ∧ Al (PcR K G) us p ∧ us.length ≤ 3
theorem GrR.same {K : PySem.W.Frag} {G G' : Hp} {g : Addr} {p : List Pc} (s : Same G G') (h : GrR K G g p) : GrR K G' g p := by
  obtain ⟨us, a, b, c⟩ := h
  exact ⟨us, s.seq a, b.mono fun x y _ z => z.same s, c⟩
/-- one more group in the list E of groups -/
theorem grp_step {K : PySem.W.Frag} {H X Y : Hp} {E g : Addr} {as gs : List Addr} {ps : List (List Pc)} {p : List Pc} (hE : H E = none) (g1 : Same H X) (g2 : X E = some (.lst (gs.map V.ref))) (g4 : Al (GrR K (offs (E :: as) X)) gs ps)
    (S : Same X Y) (hg : X g = none) (hn : GrR K (offs (E :: as) Y) g p) : Same H (upd Y E (.lst (gs.map V.ref ++ [V.ref g]))) ∧ (upd Y E (.lst (gs.map V.ref ++ [V.ref g]))) E = some (.lst ((gs ++ [g]).map V.ref)) ∧ Al (GrR K (offs (E :: as) (upd Y E (.lst (gs.map V.ref ++ [V.ref g]))))) (gs ++ [g]) (ps ++ [p]) := by
  have kE : KeepA [E] X (upd Y E (.lst (gs.map V.ref ++ [V.ref g]))) := S.keepA.trans (KeepA.wr (by simp))
  have kY : KeepA [E] Y (upd Y E (.lst (gs.map V.ref ++ [V.ref g]))) := KeepA.wr (by simp)
  refine ⟨fun b o e => ?_, by rw [upd_same, List.map_append]; rfl, ?_⟩
  · have nb : b ≠ E := fun z => by rw [z, hE] at e; cases e
    exact kE b o (by simp [nb]) (g1 b o e)
  · exact (g4.mono fun a b _ z => z.same (kE.mono (bs := E :: as) (by simp)).offs).snoc (hn.same (kY.mono (bs := E :: as) (by simp)).offs)
def spPieces (K : PySem.W.Frag) : Sp := fun vs H Q _ => ∃ (v : V) (t : T) (as : List Addr), vs = [v] ∧ Old as H ∧ Tm K (offs as H) v t ∧ Wt t ∧
  ∀ (r : Addr) (H' : Hp) (us : List V), Same H H' → H r = none → H' r = some (.lst us) → Al (PcR K (offs as H')) us t.pcs → Q (.ref r) H'
abbrev s_pieces_of : Stmt := topS 49
abbrev N_pieces_of : List Str := ["node", "item", "name", "term", "piece"]
theorem sc_pieces_of : FnScope N_pieces_of ["node"] (defScope s_pieces_of) := ⟨rfl, rfl, rfl, by decide +kernel, rfl, by decide +kernel, by decide +kernel⟩
section
variable {P : Program} {w : World} {K : PySem.W.Frag} {mg : Str → Option Value} {base : Heap}
theorem ok_pieces_of {D : Addr} {es : Array DictEntry} {dn : Nat} (S : Stands K mg "pieces_of" s_pieces_of ["node"]) (Z : Blt mg) (WR : Writ w K mg D es dn) (H_list_pieces : DefOk P w K mg base CX0 1 "list_pieces" ["begin", "groups", "end"] (spListP K)) : DefOk P w K mg base CX0 2 "pieces_of" ["node"] (spPieces K) := by
  have z_isinstance := Z.isinstance
  have z_str := Z.str
  have c_WRITTEN := WR.at_
  have c_WRITTEN_r : RelV (.ref D) (Value.ref D) := rfl
  obtain ⟨f, fd, F, hm, hb⟩ := S
  obtain ⟨f_list_pieces, fd_list_pieces, G_list_pieces, m_list_pieces, k_list_pieces, b_list_pieces⟩ := H_list_pieces
  refine ⟨f, fd, ?_, hm, F.kp, hb⟩
  have nd := sc_pieces_of.nd
  refine F.ok sc_pieces_of (fun vs H Q E h => ?_) (fun cdv A outer s0 H vs Q E hr h => ?_)
  · obtain ⟨v, t, as, rfl, _⟩ := h
    rfl
  obtain ⟨v, t, as, rfl, hold, hT, hW, q⟩ := h
  refine ⟨_, (pss_cons (ps_if (pt_cmpR op_eq (pe_ix ix_tup (pv 0) pe_int (fun _ _ => rfl)) pe_str (nomark _)) (pss_one (ps_ret (pe_lst (pa_cons (pe_tup (pa_cons pe_bl (pa_cons (pe_callTy call_str_int (by rfl) z_str (by decide +kernel) (pa_cons (pe_ix ix_tup (pv 0) pe_int (fun _ _ => rfl)) pa_nil)) pa_nil))) pa_nil)))) pss_nil)
      (pss_cons (ps_if (pt_cmpR op_eq (pe_ix ix_tup (pv 0) pe_int (fun _ _ => rfl)) pe_str (nomark _)) (pss_one (ps_ret (pe_lst (pa_cons (pe_tup (pa_cons pe_bl (pa_cons (pe_ifExp (pt_val (pe_ix ix_tup (pv 0) pe_int (fun _ _ => rfl))) pe_str pe_str) pa_nil))) pa_nil)))) pss_nil)
      (pss_cons (ps_if (pt_cmpR op_eq (pe_ix ix_tup (pv 0) pe_int (fun _ _ => rfl)) pe_str (nomark _)) (pss_one (ps_ret (pe_call G_list_pieces (hr.mono (by decide)) rfl m_list_pieces k_list_pieces b_list_pieces .nil pass0 (pa_cons pe_str (pa_cons (pe_lc (own := [("item", 1)]) (g := gName 1) (tt := tYes) rfl nd (pi_list (pe_ix ix_tup (pv 0) pe_int (fun _ _ => rfl))) (blkOk_by (N := N_pieces_of) (sc := defScope s_pieces_of) (by decide +kernel)) (fun _ _ _ _ _ => (pg_name (i := 1) nd rfl (Or.inl rfl))) (fun _ _ _ _ _ => pts_nil) (fun _ _ _ _ _ => (pe_lst (pa_cons (pe_tup (pa_cons pe_bl (pa_cons (pv 1) pa_nil))) pa_nil)))) (pa_cons pe_str pa_nil)))))) pss_nil)
      (pss_cons (ps_if (pt_cmpR op_eq (pe_ix ix_tup (pv 0) pe_int (fun _ _ => rfl)) pe_str (nomark _)) (pss_one (ps_ret (pe_call G_list_pieces (hr.mono (by decide)) rfl m_list_pieces k_list_pieces b_list_pieces .nil pass0 (pa_cons pe_str (pa_cons (pe_lc (own := [("name", 2), ("term", 3)]) (g := gTup K 2 (gCons (gName 2) (gCons (gName 3) gNil))) (tt := tYes) rfl nd (pi_list (pe_ix ix_tup (pv 0) pe_int (fun _ _ => rfl))) (blkOk_by (N := N_pieces_of) (sc := defScope s_pieces_of) (by decide +kernel)) (fun _ _ _ _ _ => (pg_tup rfl (pgs_cons (pg_name (i := 2) nd rfl (Or.inl rfl)) (pgs_cons (pg_name (i := 3) nd rfl (Or.inl rfl)) pgs_nil)))) (fun _ _ _ _ _ => pts_nil) (fun _ _ _ _ _ => (pe_lst (pa_cons (pe_tup (pa_cons pe_bl (pa_cons (pv 2) pa_nil))) (pa_cons (pe_tup (pa_cons pe_bl (pa_cons pe_str pa_nil))) (pa_cons (pe_tup (pa_cons pe_bl (pa_cons (pv 3) pa_nil))) pa_nil)))))) (pa_cons pe_str pa_nil)))))) pss_nil)
      (pss_one (ps_ret (pe_lc (own := [("piece", 4)]) (g := gName 4) (tt := tYes) rfl nd (pi_tup (pe_ix ix_kdict (pe_glob rfl c_WRITTEN c_WRITTEN_r) (pe_ix ix_tup (pv 0) pe_int (fun _ _ => rfl)) (fun _ _ => rfl))) (blkOk_by (N := N_pieces_of) (sc := defScope s_pieces_of) (by decide +kernel)) (fun _ _ _ _ _ => (pg_name (i := 4) nd rfl (Or.inl rfl))) (fun _ _ _ _ _ => pts_nil) (fun _ _ _ _ _ => (pe_ifExp (pt_val (pe_callB (r := rIsi K) call_isi (by rfl) z_isinstance (by decide +kernel) (pa_cons (pv 4) (pa_cons (pe_bltn (v := .ty "str") (by rfl) z_str (by decide +kernel) rfl) pa_nil)))) (pe_tup (pa_cons pe_bl (pa_cons (pv 4) pa_nil))) (pe_tup (pa_cons pe_bl (pa_cons (pe_ix (r := rIxT K) ix_tup (pv 0) (pv 4) (fun _ _ => rfl)) pa_nil)))))))))))), ?_⟩
  obtain ⟨a, xs, rfl, hx0⟩ := hT.tuple
  have hx := Same.tupS offs_same hx0
  by_cases hw : t.hd.isWr = true
  · obtain ⟨n1, n2, n3, n4⟩ := wr_no hw
    walk_at "rd"
    refine ⟨a, _, _, _, rfl, rfl, hx, at0, ?_⟩
    walk_at "rd"
    refine ifF n1 ?_
    walk_at "rd"
    refine ⟨a, _, _, _, rfl, rfl, hx, at0, ?_⟩
    walk_at "rd"
    refine ifF n2 ?_
    walk_at "rd"
    refine ⟨a, _, _, _, rfl, rfl, hx, at0, ?_⟩
    walk_at "rd"
    refine ifF n3 ?_
    walk_at "rd"
    refine ⟨a, _, _, _, rfl, rfl, hx, at0, ?_⟩
    walk_at "rd"
    refine ifF n4 ?_
    walk_at "rd"
    refine ⟨a, _, _, _, rfl, rfl, hx, at0, ?_⟩
    obtain ⟨wa, wn, wq⟩ := WR.fn t.hd hw
    obtain ⟨ys, hy, hal⟩ := corr_of (xs := xs) hT hw
    refine ⟨D, _, .ref wa, rfl, rfl, ⟨es, dn, _, WR.kd.at_, WR.kd.lit, wn, rfl⟩, ?_⟩
    refine ⟨wa, rfl, ⟨_, wq _⟩, fun E hE => ?_⟩
    have wl : t.pcs.length = (wrV t.hd.word).length := hal.1.symm
    refine lc_tup (K := K) (a := wa) (xs := wrV t.hd.word) (fun i X => ∃ us : List V, Same H X ∧ X E = some (.lst us) ∧ us.length = i ∧ Al (PcR K (offs (E :: as) X)) us (t.pcs.take i))
      ⟨[], same_new hE _, upd_same, rfl, ⟨rfl, fun i a b h => by simp at h⟩⟩ (fun i X hi ⟨us, g1, _⟩ => wq _) ?_ ?_
    · rintro i x X hxi ⟨us, g1, g2, g3, g4⟩
      have hlt : i < t.pcs.length := by rw [wl]; exact (List.getElem?_eq_some_iff.mp hxi).1
      have hpi : t.pcs[i]? = some (t.pcs[i]'hlt) := List.getElem?_eq_getElem hlt
      have hc := hal.2 i x _ hxi hpi
      have htk : t.pcs.take (i + 1) = t.pcs.take i ++ [t.pcs[i]'hlt] := by rw [List.take_add_one, hpi]; rfl
      generalize t.pcs[i]'hlt = pc at *
      walk_at "rd"
      have hsmall : us.length < sizeLine := by
        have := wr_len t.hd.word
        have : 6000 < sizeLine := by decide +kernel
        omega
      have fin : ∀ (p : Addr) (zs : List V), X p = none → (∀ G : Hp, Same (offs (E :: as) X) G → G p = some (.tup zs) → PcR K G (.ref p) pc) → ∃ acc, (upd X p (.tup zs)) E = some (.lst acc) ∧ acc.length < sizeLine ∧ ∃ us : List V, Same H (upd (upd X p (.tup zs)) E (.lst (acc ++ [V.ref p]))) ∧
          (upd (upd X p (.tup zs)) E (.lst (acc ++ [V.ref p]))) E = some (.lst us) ∧ us.length = i + 1 ∧ Al (PcR K (offs (E :: as) (upd (upd X p (.tup zs)) E (.lst (acc ++ [V.ref p]))))) us (t.pcs.take (i + 1)) := fun p zs hp hpc => by
        have np : p ∉ E :: as := fun m => by
          rcases List.mem_cons.mp m with m | m
          · rw [m, g2] at hp
            cases hp
          · exact (hold.same g1).out hp m
        have S2 := same_new hp (.tup zs)
        have kE : KeepA [E] X (upd (upd X p (.tup zs)) E (.lst (us ++ [V.ref p]))) := S2.keepA.trans (KeepA.wr (by simp))
        have hp2 : (upd (upd X p (.tup zs)) E (.lst (us ++ [V.ref p]))) p = some (.tup zs) := by rw [upd_ne (fun z => np (by simp [z]))]; exact upd_same
        refine ⟨us, S2 _ _ g2, hsmall, us ++ [.ref p], fun b o e => ?_, upd_same, by simp [g3], ?_⟩
        · have nb : b ≠ E := fun z => by rw [z, hE] at e; cases e
          exact kE b o (by simp [nb]) (g1 b o e)
        · rw [htk]
          exact (g4.mono fun a b _ z => z.same (kE.mono (bs := E :: as) (by simp)).offs).snoc (hpc _ (kE.mono (bs := E :: as) (by simp)).offs (by rw [offs_out np]; exact hp2))
      have sHE := offs_new (as := as) g1 hE
      rcases hc with ⟨y, rfl, rfl⟩ | ⟨j, u, rfl, hu, hh⟩
      · refine ⟨_, .ty "str", _, _, true, rfl, .ty "str", .base (.str _), kit_ty (by decide +kernel), _, rfl, ?_⟩
        refine ifT rfl ?_
        walk_at "rd"
        intro p hp
        exact fin p _ hp fun G S e => ⟨p, true, _, rfl, SqT.of e, rfl, rfl⟩
      · refine ⟨_, .ty "str", _, _, false, rfl, .ty "str", .base (.int _), kit_ty (by decide +kernel), _, rfl, ?_⟩
        refine ifF rfl ?_
        walk_at "rd"
        refine ⟨a, ys, _, u, rfl, rfl, g1.tupS (Same.tupS offs_same hy), atI_nat hu, ?_⟩
        walk_at "rd"
        intro p hp
        refine fin p _ hp fun G S e => ⟨p, false, u, rfl, SqT.of e, ?_⟩
        cases pc with
        | w _ => exact hh.elim
        | nm _ => exact ⟨rfl, hh⟩
        | num _ => exact ⟨rfl, hh⟩
        | tm _ => exact ⟨rfl, hh.same (sHE.trans S)⟩
    · rintro X ⟨us, g1, g2, g3, g4⟩
      rw [List.take_of_length_le (by rw [wl]; exact Nat.le_refl _)] at g4
      exact q E X us g1 hE g2 (g4.mono fun a b _ z => z.same offs_less)
  · cases hT with
    | @int _ k h =>
      have hk := hW.hd.2
      walk_at "rd"
      refine ⟨a, _, _, _, rfl, rfl, Same.tupS offs_same h, at0, ?_⟩
      walk_at "rd"
      refine ⟨a, _, _, _, rfl, rfl, Same.tupS offs_same h, atI_nat (j := 1) rfl, ?_⟩
      walk_at "rd"
      have hlog : k.natAbs.log2 < 1920 := by
        have h1 : k.natAbs ≤ 10 ^ 30 := by
          have hk2 : -(10 ^ 30) ≤ k ∧ k ≤ 10 ^ 30 := hk
          omega
        by_cases z : k.natAbs = 0
        · rw [z]; decide
        · exact Nat.lt_of_lt_of_le ((Nat.log2_lt z).mpr (show k.natAbs < 2 ^ 100 by omega)) (by decide)
      refine ⟨hlog, ?_⟩
      walk_at "rd"
      intro p hp
      have S1 := same_new hp (.tup [V.bl true, V.str (Str.ofString (toString k))])
      have hp1 := @upd_same H p (.tup [V.bl true, V.str (Str.ofString (toString k))])
      generalize upd H p (.tup [V.bl true, V.str (Str.ofString (toString k))]) = H1 at *
      walk_at "rd"
      intro r hr
      have S2 := same_new hr (.lst [V.ref p])
      have hr0 : H r = none := by
        cases e : H r with
        | none => rfl
        | some y => have := S1 _ _ e; rw [hr] at this; cases this
      exact q r _ _ (S1.trans S2) hr0 upd_same (Al.cons ⟨p, true, _, rfl, SqT.of (by rw [offs_out (hold.out hp)]; exact S2 _ _ hp1), rfl, rfl⟩ ⟨rfl, fun i a b h => by simp at h⟩)
    | @bool _ b h =>
      walk_at "rd"
      refine ⟨a, _, _, _, rfl, rfl, Same.tupS offs_same h, at0, ?_⟩
      walk_at "rd"
      refine ⟨a, _, _, _, rfl, rfl, Same.tupS offs_same h, at0, ?_⟩
      walk_at "rd"
      refine ⟨a, _, _, _, rfl, rfl, Same.tupS offs_same h, atI_nat (j := 1) rfl, ?_⟩
      walk_at "rd"
      cases b with
      | true =>
        refine ifT rfl ?_
        walk_at "rd"
        intro p hp
        have S1 := same_new hp (.tup [V.bl true, V.str "true"])
        have hp1 := @upd_same H p (.tup [V.bl true, V.str "true"])
        generalize upd H p (.tup [V.bl true, V.str "true"]) = H1 at *
        walk_at "rd"
        intro r hr
        have S2 := same_new hr (.lst [V.ref p])
        have hr0 : H r = none := by
          cases e : H r with
          | none => rfl
          | some y => have := S1 _ _ e; rw [hr] at this; cases this
        exact q r _ _ (S1.trans S2) hr0 upd_same (Al.cons ⟨p, true, _, rfl, SqT.of (by rw [offs_out (hold.out hp)]; exact S2 _ _ hp1), rfl, rfl⟩ ⟨rfl, fun i a b h => by simp at h⟩)
      | false =>
        refine ifF rfl ?_
        walk_at "rd"
        intro p hp
        have S1 := same_new hp (.tup [V.bl true, V.str "false"])
        have hp1 := @upd_same H p (.tup [V.bl true, V.str "false"])
        generalize upd H p (.tup [V.bl true, V.str "false"]) = H1 at *
        walk_at "rd"
        intro r hr
        have S2 := same_new hr (.lst [V.ref p])
        have hr0 : H r = none := by
          cases e : H r with
          | none => rfl
          | some y => have := S1 _ _ e; rw [hr] at this; cases this
        exact q r _ _ (S1.trans S2) hr0 upd_same (Al.cons ⟨p, true, _, rfl, SqT.of (by rw [offs_out (hold.out hp)]; exact S2 _ _ hp1), rfl, rfl⟩ ⟨rfl, fun i a b h => by simp at h⟩)
    | tup h h2 l1 f =>
      walk_at "rd"
      refine ⟨a, _, _, _, rfl, rfl, Same.tupS offs_same h, at0, ?_⟩
      walk_at "rd"
      refine ⟨a, _, _, _, rfl, rfl, Same.tupS offs_same h, at0, ?_⟩
      walk_at "rd"
      refine ⟨a, _, _, _, rfl, rfl, Same.tupS offs_same h, at0, ?_⟩
      walk_at "rd"
      refine ⟨a, _, _, _, rfl, rfl, Same.tupS offs_same h, atI_nat (j := 1) rfl, ?_⟩
      walk_at "rd"
      refine ⟨⟨_, offs_same.seq h2⟩, fun E hE => ?_⟩
      have hfew := hW.hd
      simp only [okHd] at hfew
      rename_i l xs' ts
      refine lc_list (K := K) (a := l) (xs := xs') (fun i X => ∃ gs : List Addr, Same H X ∧ X E = some (.lst (gs.map V.ref)) ∧ gs.length = i ∧ Al (GrR K (offs (E :: as) X)) gs ((ts.map fun t => [Pc.tm t]).take i))
        ⟨[], same_new hE _, upd_same, rfl, ⟨rfl, fun i a b h => by simp at h⟩⟩ (fun i X hi ⟨gs, g1, _⟩ => g1.seq (offs_same.seq h2)) ?_ ?_
      · rintro i x X hxi ⟨gs, g1, g2, g3, g4⟩
        have hlt : i < ts.length := by rw [← l1]; exact (List.getElem?_eq_some_iff.mp hxi).1
        have hti : ts[i]? = some (ts[i]'hlt) := List.getElem?_eq_getElem hlt
        have hx' := f i x _ hxi hti
        have htk : (ts.map fun t => [Pc.tm t]).take (i + 1) = (ts.map fun t => [Pc.tm t]).take i ++ [[Pc.tm (ts[i]'hlt)]] := by
          rw [List.take_add_one, List.getElem?_map, hti]
          rfl
        generalize ts[i]'hlt = ti at *
        walk_at "rd"
        intro p hp
        have S1 := same_new hp (.tup [V.bl false, x])
        have hp1 := @upd_same X p (.tup [V.bl false, x])
        generalize upd X p (.tup [V.bl false, x]) = X1 at *
        walk_at "rd"
        intro g hg
        have S2 := same_new hg (.lst [V.ref p])
        have hg2 := @upd_same X1 g (.lst [V.ref p])
        have hp2 := S2 _ _ hp1
        have hgX : X g = none := by
          cases e : X g with
          | none => rfl
          | some y => have := S1 _ _ e; rw [hg] at this; cases this
        generalize upd X1 g (.lst [V.ref p]) = X2 at *
        have nE : ∀ c, X c = none → c ∉ E :: as := fun c hc m => by
          rcases List.mem_cons.mp m with m | m
          · rw [m, g2] at hc
            cases hc
          · exact (hold.same g1).out hc m
        have sHG := offs_new (as := as) ((g1.trans S1).trans S2) hE
        obtain ⟨r1, r2, r3⟩ := grp_step hE g1 g2 g4 (S1.trans S2) hgX (p := [.tm ti]) ⟨[.ref p], SqL.of (by rw [offs_out (nE g hgX)]; exact hg2), Al.cons ⟨p, false, x, rfl, SqT.of (by rw [offs_out (nE p hp)]; exact hp2), rfl, hx'.same sHG⟩ ⟨rfl, fun i a b h => by simp at h⟩, by simp⟩
        refine ⟨_, S2 _ _ (S1 _ _ g2), small1000 (by rw [List.length_map]; omega), gs ++ [g], r1, r2, by simp [g3], ?_⟩
        rw [htk]
        exact r3
      · rintro X ⟨gs, g1, g2, g3, g4⟩
        rw [l1, List.take_of_length_le (by simp)] at g4
        walk_at "rd"
        refine ⟨"(", ")", E, gs, _, as, rfl, hold.same g1, SqL.of g2, by omega, g4.mono fun a b _ ⟨us, z1, z2, z3⟩ => ⟨us, offs_same.seq z1, z2.mono fun _ _ _ z => z.same offs_less, z3⟩, fun r H2 us S2 hr hu ha => ?_⟩
        have hr0 : H r = none := by
          cases e : H r with
          | none => rfl
          | some y => have := g1 _ _ e; rw [hr] at this; cases this
        exact q r H2 us (g1.trans S2) hr0 hu ha
    | record h h2 l1 l2 l3 f gg =>
      walk_at "rd"
      refine ⟨a, _, _, _, rfl, rfl, Same.tupS offs_same h, at0, ?_⟩
      walk_at "rd"
      refine ⟨a, _, _, _, rfl, rfl, Same.tupS offs_same h, at0, ?_⟩
      walk_at "rd"
      refine ⟨a, _, _, _, rfl, rfl, Same.tupS offs_same h, at0, ?_⟩
      walk_at "rd"
      refine ⟨a, _, _, _, rfl, rfl, Same.tupS offs_same h, at0, ?_⟩
      walk_at "rd"
      refine ⟨a, _, _, _, rfl, rfl, Same.tupS offs_same h, atI_nat (j := 1) rfl, ?_⟩
      walk_at "rd"
      refine ⟨⟨_, offs_same.seq h2⟩, fun E hE => ?_⟩
      have hfew := hW.hd
      simp only [okHd] at hfew
      rename_i l bs us0 ls ts
      have fget : ∀ (i : Nat) (n : Str) (t : T), ls[i]? = some n → ts[i]? = some t → (fldP ls ts).take (i + 1) = (fldP ls ts).take i ++ [[.nm n, .w "=", .tm t]] := by
        have : ∀ (ls : List Str) (ts : List T) (i : Nat) (n : Str) (t : T), ls[i]? = some n → ts[i]? = some t → (fldP ls ts)[i]? = some [.nm n, .w "=", .tm t] := by
          intro ls
          induction ls with
          | nil => intro ts i n t h; simp at h
          | cons m ls ih =>
            intro ts i n t e1 e2
            match ts, e2 with
            | u :: ts, e2 =>
              cases i with
              | zero => simp at e1 e2; subst e1; subst e2; rfl
              | succ i => simp only [fldP, List.getElem?_cons_succ] at e1 e2 ⊢; exact ih ts i n t e1 e2
        intro i n t e1 e2
        rw [List.take_add_one, this ls ts i n t e1 e2]
        rfl
      have flen : (fldP ls ts).length ≤ ls.length := by
        have : ∀ (ls : List Str) (ts : List T), (fldP ls ts).length ≤ ls.length := by
          intro ls
          induction ls with
          | nil => intro ts; simp [fldP]
          | cons m ls ih =>
            intro ts
            cases ts with
            | nil => simp [fldP]
            | cons u ts => simp only [fldP, List.length_cons]; have := ih ts; omega
        exact this ls ts
      refine lc_list (K := K) (a := l) (xs := bs.map V.ref) (fun i X => ∃ gs : List Addr, Same H X ∧ X E = some (.lst (gs.map V.ref)) ∧ gs.length = i ∧ Al (GrR K (offs (E :: as) X)) gs ((fldP ls ts).take i))
        ⟨[], same_new hE _, upd_same, rfl, ⟨rfl, fun i a b h => by simp at h⟩⟩ (fun i X hi ⟨gs, g1, _⟩ => g1.seq (offs_same.seq h2)) ?_ ?_
      · rintro i x X hxi ⟨gs, g1, g2, g3, g4⟩
        obtain ⟨b, hb1, hb2, rfl⟩ := get_map hxi
        have hlb : i < bs.length := (List.getElem?_eq_some_iff.mp hb2).1
        have hti : ts[i]? = some (ts[i]'(by omega)) := List.getElem?_eq_getElem (by omega)
        have hli : ls[i]? = some (ls[i]'(by omega)) := List.getElem?_eq_getElem (by omega)
        have hui : us0[i]? = some (us0[i]'(by omega)) := List.getElem?_eq_getElem (by omega)
        have htk := fget i _ _ hli hti
        have hbt := f i b _ _ hb2 hli hui
        have hut := gg i _ _ hui hti
        generalize ts[i]'(by omega) = ti at *
        generalize ls[i]'(by omega) = li at *
        generalize us0[i]'(by omega) = ui at *
        refine ⟨b, _, rfl, g1.tupS (Same.tupS offs_same hbt), rfl, ?_⟩
        refine ⟨_, _, rfl, ⟨_, _, rfl, rfl, ?_⟩⟩
        refine ⟨rfl, ?_⟩
        walk_at "rd"
        intro p hp
        have S1 := same_new hp (.tup [V.bl false, V.str li])
        have hp1 := @upd_same X p (.tup [V.bl false, V.str li])
        generalize upd X p (.tup [V.bl false, V.str li]) = X1 at *
        walk_at "rd"
        intro p' hp'
        have S1' := same_new hp' (.tup [V.bl true, V.str "="])
        have hp1' := @upd_same X1 p' (.tup [V.bl true, V.str "="])
        have hpX' : X p' = none := by
          cases e : X p' with
          | none => rfl
          | some y => have := S1 _ _ e; rw [hp'] at this; cases this
        generalize upd X1 p' (.tup [V.bl true, V.str "="]) = X1' at *
        walk_at "rd"
        intro p'' hp''
        have S1'' := same_new hp'' (.tup [V.bl false, ui])
        have hp1'' := @upd_same X1' p'' (.tup [V.bl false, ui])
        have hpX'' : X p'' = none := by
          cases e : X p'' with
          | none => rfl
          | some y => have := S1' _ _ (S1 _ _ e); rw [hp''] at this; cases this
        generalize upd X1' p'' (.tup [V.bl false, ui]) = X1'' at *
        walk_at "rd"
        intro g hg
        have SA := (S1.trans S1').trans S1''
        have S2 := same_new hg (.lst [V.ref p, V.ref p', V.ref p''])
        have hg2 := @upd_same X1'' g (.lst [V.ref p, V.ref p', V.ref p''])
        have q1 := S2 _ _ (S1'' _ _ (S1' _ _ hp1))
        have q2 := S2 _ _ (S1'' _ _ hp1')
        have q3 := S2 _ _ hp1''
        have hgX : X g = none := by
          cases e : X g with
          | none => rfl
          | some y => have := SA _ _ e; rw [hg] at this; cases this
        generalize upd X1'' g (.lst [V.ref p, V.ref p', V.ref p'']) = X2 at *
        have nE : ∀ c, X c = none → c ∉ E :: as := fun c hc m => by
          rcases List.mem_cons.mp m with m | m
          · rw [m, g2] at hc
            cases hc
          · exact (hold.same g1).out hc m
        have sHG := offs_new (as := as) ((g1.trans SA).trans S2) hE
        obtain ⟨r1, r2, r3⟩ := grp_step hE g1 g2 g4 (SA.trans S2) hgX (p := [.nm li, .w "=", .tm ti]) ⟨[.ref p, .ref p', .ref p''], SqL.of (by rw [offs_out (nE g hgX)]; exact hg2),
          Al.cons ⟨p, false, _, rfl, SqT.of (by rw [offs_out (nE p hp)]; exact q1), rfl, rfl⟩ (Al.cons ⟨p', true, _, rfl, SqT.of (by rw [offs_out (nE p' hpX')]; exact q2), rfl, rfl⟩ (Al.cons ⟨p'', false, ui, rfl, SqT.of (by rw [offs_out (nE p'' hpX'')]; exact q3), rfl, hut.same sHG⟩ ⟨rfl, fun i a b h => by simp at h⟩)), by simp⟩
        refine ⟨_, S2 _ _ (SA _ _ g2), small1000 (by rw [List.length_map]; omega), gs ++ [g], r1, r2, by simp [g3], ?_⟩
        rw [htk]
        exact r3
      · rintro X ⟨gs, g1, g2, g3, g4⟩
        rw [List.length_map] at g3 g4
        rw [List.take_of_length_le (by omega)] at g4
        walk_at "rd"
        refine ⟨"{", "}", E, gs, _, as, rfl, hold.same g1, SqL.of g2, by omega, g4.mono fun a b _ ⟨us, z1, z2, z3⟩ => ⟨us, offs_same.seq z1, z2.mono fun _ _ _ z => z.same offs_less, z3⟩, fun r H2 us S2 hr hu ha => ?_⟩
        have hr0 : H r = none := by
          cases e : H r with
          | none => rfl
          | some y => have := g1 _ _ e; rw [hr] at this; cases this
        exact q r H2 us (g1.trans S2) hr0 hu ha
    | _ => exact absurd rfl hw
end
end Vt


set_option Elab.async false
set_option linter.all false
set_option maxRecDepth 100000
set_option maxHeartbeats 4000000

namespace Vt
open PySem PySem.Spec PyProof.Rows L2 TL
/-! ### the text of a term, where its names are names in texts -/
/-- how many nodes wait -/
def tsz : List Pc → Nat
  | [] => 0
  | .tm t :: r => t.size + tsz r
  | _ :: r => tsz r
theorem tsz_app : ∀ a b : List Pc, tsz (a ++ b) = tsz a + tsz b
  | [], b => by simp [tsz]
  | p :: r, b => by cases p <;> simp only [List.cons_append, tsz, tsz_app r b] <;> omega
theorem tsz_join : ∀ gs : List (List Pc), tsz (joinP gs) = (gs.map tsz).sum
  | [] => rfl
  | [a] => by simp [joinP]
  | a :: b :: r => by
    have ih := tsz_join (b :: r)
    simp only [joinP, tsz_app, tsz, List.map_cons, List.sum_cons] at ih ⊢
    omega
theorem tsz_tup : ∀ ks : List T, ((ks.map fun t => [Pc.tm t]).map tsz).sum = T.sizes ks
  | [] => rfl
  | t :: r => by have := tsz_tup r; simp only [List.map_cons, List.sum_cons, tsz, T.sizes] at this ⊢; omega
theorem tsz_fld : ∀ (ls : List Str) (ks : List T), ls.length = ks.length → ((fldP ls ks).map tsz).sum = T.sizes ks
  | [], [], _ => rfl
  | n :: ls, t :: r, h => by have := tsz_fld ls r (by simpa using h); simp only [fldP, List.map_cons, List.sum_cons, tsz, T.sizes] at this ⊢; omega
  | [], _ :: _, h => by simp at h
  | _ :: _, [], h => by simp at h
theorem tsz_pcs : ∀ {t : T}, Wt t → tsz t.pcs + 1 = t.size
  | .node h ks, w => by
    have iw := w.hd
    cases h with
    | var n => simp only [okHd] at iw; obtain rfl := List.eq_nil_of_length_eq_zero iw.1; rfl
    | int k => simp only [okHd] at iw; obtain rfl := List.eq_nil_of_length_eq_zero iw.1; rfl
    | bool b => simp only [okHd] at iw; obtain rfl := List.eq_nil_of_length_eq_zero iw; rfl
    | tup => simp only [T.pcs, tsz, tsz_app, tsz_join, tsz_tup, T.size]; omega
    | record ls => simp only [okHd] at iw; simp only [T.pcs, tsz, tsz_app, tsz_join, tsz_fld ls ks iw.1, T.size]; omega
    | cond =>
      simp only [okHd] at iw
      obtain ⟨a, b, c, rfl⟩ := len_three iw
      simp only [T.pcs, tsz, T.size, T.sizes]; omega
    | app =>
      simp only [okHd] at iw
      obtain ⟨a, b, rfl⟩ := len_two iw
      simp only [T.pcs, tsz, T.size, T.sizes]; omega
    | fn n =>
      simp only [okHd] at iw
      obtain ⟨a, rfl⟩ := List.length_eq_one_iff.mp iw.1
      simp only [T.pcs, tsz, T.size, T.sizes]; omega
    | field n =>
      simp only [okHd] at iw
      obtain ⟨a, rfl⟩ := List.length_eq_one_iff.mp iw.1
      simp only [T.pcs, tsz, T.size, T.sizes]; omega
    | part k z =>
      simp only [okHd] at iw
      obtain ⟨a, rfl⟩ := List.length_eq_one_iff.mp iw.1
      simp only [T.pcs, tsz, T.size, T.sizes]; omega
    | lt n =>
      simp only [okHd] at iw
      obtain ⟨a, b, rfl⟩ := len_two iw.1
      simp only [T.pcs, tsz, T.size, T.sizes]; omega
    | rc n =>
      simp only [okHd] at iw
      obtain ⟨a, b, rfl⟩ := len_two iw.1
      simp only [T.pcs, tsz, T.size, T.sizes]; omega
    | wth n =>
      simp only [okHd] at iw
      obtain ⟨a, b, rfl⟩ := len_two iw.1
      simp only [T.pcs, tsz, T.size, T.sizes]; omega
/-- all that waits is of terms -/
def PcOk : Pc → Prop
  | .tm t => Wt t
  | .num k => -(10 ^ 30) ≤ k ∧ k ≤ 10 ^ 30
  | _ => True
theorem ptoks_len : ∀ {ps : List Pc}, (∀ p ∈ ps, PcOk p) → ps.length ≤ (ptoks ps).length
  | [], _ => by simp
  | p :: r, h => by
    have ih := ptoks_len (ps := r) fun q m => h q (List.mem_cons_of_mem _ m)
    have hp := h p List.mem_cons_self
    have : 1 ≤ p.toks.length := by
      cases p with
      | tm t => exact List.length_pos_iff.mpr (toks_ok t hp).2
      | _ => simp [Pc.toks]
    simp only [ptoks, List.length_append, List.length_cons]
    omega
theorem join_ok : ∀ {ps : List (List Pc)}, (∀ g ∈ ps, ∀ p ∈ g, PcOk p) → ∀ p ∈ joinP ps, PcOk p
  | [], _, p, m => by simp [joinP] at m
  | [a], h, p, m => h a (by simp) p m
  | a :: b :: r, h, p, m => by
    simp only [joinP, List.mem_append, List.mem_cons] at m
    rcases m with m | rfl | m
    · exact h a (by simp) p m
    · trivial
    · exact join_ok (ps := b :: r) (fun g k => h g (List.mem_cons_of_mem _ k)) p m
theorem fldP_mem {g : List Pc} : ∀ {ls : List Str} {ks : List T}, g ∈ fldP ls ks → ∃ n, ∃ t ∈ ks, g = [.nm n, .w "=", .tm t]
  | n :: ls, t :: r, m => by
    simp only [fldP, List.mem_cons] at m
    rcases m with rfl | m
    · exact ⟨n, t, by simp, rfl⟩
    · obtain ⟨n', t', h, e⟩ := fldP_mem m
      exact ⟨n', t', List.mem_cons_of_mem _ h, e⟩
  | [], _, m => by simp [fldP] at m
  | _ :: _, [], m => by simp [fldP] at m
theorem pcs_ok : ∀ {t : T}, Wt t → ∀ p ∈ t.pcs, PcOk p
  | .node h ks, w, p, m => by
    have iw := w.hd
    have kd : ∀ t ∈ ks, Wt t := fun t m => w.kid m
    cases h with
    | var n => simp only [T.pcs, List.mem_singleton] at m; subst m; trivial
    | int k => simp only [T.pcs, List.mem_singleton] at m; subst m; trivial
    | bool b => simp only [T.pcs, List.mem_singleton] at m; subst m; trivial
    | tup =>
      simp only [T.pcs, List.mem_cons, List.mem_append, List.not_mem_nil, or_false] at m
      rcases m with rfl | m | rfl
      · trivial
      · exact join_ok (fun g hg p hp => by
          obtain ⟨t, ht, rfl⟩ := List.mem_map.mp hg
          simp at hp
          subst hp
          exact kd t ht) p m
      · trivial
    | record ls =>
      simp only [T.pcs, List.mem_cons, List.mem_append, List.not_mem_nil, or_false] at m
      rcases m with rfl | m | rfl
      · trivial
      · exact join_ok (fun g hg p hp => by
          obtain ⟨n, t, ht, rfl⟩ := fldP_mem hg
          simp only [List.mem_cons, List.not_mem_nil, or_false] at hp
          rcases hp with rfl | rfl | rfl
          · trivial
          · trivial
          · exact kd t ht) p m
      · trivial
    | part k z =>
      simp only [okHd] at iw
      obtain ⟨a, rfl⟩ := List.length_eq_one_iff.mp iw.1
      simp only [T.pcs, List.mem_cons, List.not_mem_nil, or_false] at m
      rcases m with rfl | rfl | rfl | rfl | rfl | rfl
      all_goals first | trivial | exact kd a (by simp) | exact (show -(10 ^ 30) ≤ _ ∧ _ ≤ 10 ^ 30 by omega)
    | cond =>
      simp only [okHd] at iw
      obtain ⟨a, b, c, rfl⟩ := len_three iw
      simp only [T.pcs, List.mem_cons, List.not_mem_nil, or_false] at m
      rcases m with rfl | rfl | rfl | rfl | rfl | rfl | rfl | rfl
      all_goals first | trivial | exact kd _ (by simp)
    | app =>
      simp only [okHd] at iw
      obtain ⟨a, b, rfl⟩ := len_two iw
      simp only [T.pcs, List.mem_cons, List.not_mem_nil, or_false] at m
      rcases m with rfl | rfl | rfl | rfl
      all_goals first | trivial | exact kd _ (by simp)
    | fn n =>
      simp only [okHd] at iw
      obtain ⟨a, rfl⟩ := List.length_eq_one_iff.mp iw.1
      simp only [T.pcs, List.mem_cons, List.not_mem_nil, or_false] at m
      rcases m with rfl | rfl | rfl | rfl | rfl | rfl
      all_goals first | trivial | exact kd _ (by simp)
    | field n =>
      simp only [okHd] at iw
      obtain ⟨a, rfl⟩ := List.length_eq_one_iff.mp iw.1
      simp only [T.pcs, List.mem_cons, List.not_mem_nil, or_false] at m
      rcases m with rfl | rfl | rfl | rfl | rfl
      all_goals first | trivial | exact kd _ (by simp)
    | lt n =>
      simp only [okHd] at iw
      obtain ⟨a, b, rfl⟩ := len_two iw.1
      simp only [T.pcs, List.mem_cons, List.not_mem_nil, or_false] at m
      rcases m with rfl | rfl | rfl | rfl | rfl | rfl | rfl | rfl
      all_goals first | trivial | exact kd _ (by simp)
    | rc n =>
      simp only [okHd] at iw
      obtain ⟨a, b, rfl⟩ := len_two iw.1
      simp only [T.pcs, List.mem_cons, List.not_mem_nil, or_false] at m
      rcases m with rfl | rfl | rfl | rfl | rfl | rfl | rfl | rfl
      all_goals first | trivial | exact kd _ (by simp)
    | wth n =>
      simp only [okHd] at iw
      obtain ⟨a, b, rfl⟩ := len_two iw.1
      simp only [T.pcs, List.mem_cons, List.not_mem_nil, or_false] at m
      rcases m with rfl | rfl | rfl | rfl | rfl | rfl | rfl
      all_goals first | trivial | exact kd _ (by simp)
def spText (K : PySem.W.Frag) : Sp := fun vs H Q _ => ∃ (v : V) (t : T), vs = [v] ∧ Tm K H v t ∧ Wt t ∧ Pure t ∧ t.size ≤ 400 ∧ t.deep ≤ 100 ∧ ∀ H', Same H H' → Q (.str t.text) H'
abbrev s_term_text : Stmt := topS 50
abbrev N_term_text : List Str := ["term", "words", "waiting", "is_word", "held"]
theorem sc_term_text : FnScope N_term_text ["term"] (defScope s_term_text) := ⟨rfl, rfl, rfl, by decide +kernel, rfl, by decide +kernel, by decide +kernel⟩
section
variable {P : Program} {w : World} {K : PySem.W.Frag} {mg : Str → Option Value} {base : Heap}
theorem ok_term_text (S : Stands K mg "term_text" s_term_text ["term"]) (Z : Blt mg) (C : Cst4 K mg) (H_check_term : DefOk P w K mg base CX0 8 "check_term" ["value"] (spChecked K)) (H_pieces_of : DefOk P w K mg base CX0 2 "pieces_of" ["node"] (spPieces K)) : DefOkF P w K mg base CX0 9 "term_text" s_term_text ["term"] (spText K) := by
  have z_isinstance := Z.isinstance
  have z_tuple := Z.tuple
  have z_str := Z.str
  obtain ⟨NA, c_NO_NAMES, hNA⟩ := C.noN
  have c_NO_NAMES_r : RelV (.ref NA) (Value.ref NA) := rfl
  obtain ⟨f, fd, F, hm, hb⟩ := S
  obtain ⟨f_check_term, fd_check_term, G_check_term, m_check_term, k_check_term, b_check_term⟩ := H_check_term
  obtain ⟨f_pieces_of, fd_pieces_of, G_pieces_of, m_pieces_of, k_pieces_of, b_pieces_of⟩ := H_pieces_of
  refine ⟨f, fd, F, ?_, hm, F.kp, hb⟩
  have nd := sc_term_text.nd
  refine F.ok sc_term_text (fun vs H Q E h => ?_) (fun cdv A outer s0 H vs Q E hr h => ?_)
  · obtain ⟨v, t, rfl, _⟩ := h
    rfl
  obtain ⟨v, t, rfl, hT, hW, hP, hs, hd, q⟩ := h
  refine ⟨_, (pss_cons (ps_expr (pe_call G_check_term (hr.mono (by decide)) rfl m_check_term k_check_term b_check_term .nil pass0 (pa_cons (pv 0) pa_nil)))
      (pss_cons (ps_set (i := 1) nd rfl (Or.inl rfl) (pe_lst pa_nil))
      (pss_cons (ps_set (i := 2) nd rfl (Or.inl rfl) (pe_lst (pa_cons (pe_tup (pa_cons pe_bl (pa_cons (pv 0) pa_nil))) pa_nil)))
      (pss_cons (ps_while PassesOwn.never (pt_truth (pv 2) (by intro _; rfl)) (pss_cons (ps_asg (pe_bm0 PySem.F.plainAttrs_list PySem.F.slot_list_pop PySem.F.type_list_pop mt_pop (pv 2)) (pg_tup rfl (pgs_cons (pg_name (i := 3) nd rfl (Or.inl rfl)) (pgs_cons (pg_name (i := 4) nd rfl (Or.inl rfl)) pgs_nil))))
      (pss_cons (ps_if (pt_val (pe_callB call_isi (by rfl) z_isinstance (by decide +kernel) (pa_cons (pv 4) (pa_cons (pe_bltn (v := .ty "tuple") (by rfl) z_tuple (by decide +kernel) rfl) pa_nil)))) (pss_cons (ps_expr (pe_bm PySem.F.plainAttrs_list PySem.F.slot_list_extend PySem.F.type_list_extend mt_extA (pv 2) (pa_cons (pe_rev (pe_call G_pieces_of (hr.mono (by decide)) rfl m_pieces_of k_pieces_of b_pieces_of .nil pass0 (pa_cons (pv 4) pa_nil))) pa_nil)))
      (pss_one ps_continue)) pss_nil)
      (pss_cons (ps_if (PW.pt (pw_and (pt_not (pt_truth (pv 3) (by intro _; rfl))) (pw_and1 (pt_cmpR op_in_seq (pv 4) (pe_glob rfl c_NO_NAMES c_NO_NAMES_r) (by rfl))))) (pss_one (ps_never)) pss_nil)
      (pss_one (ps_expr (pe_bm PySem.F.plainAttrs_list PySem.F.slot_list_append PySem.F.type_list_append mt_append (pv 1) (pa_cons (pe_callTy (call_str_int.or SkE.call_str_str) (by rfl) z_str (by decide +kernel) (pa_cons (pv 4) pa_nil)) pa_nil))))))))
      (pss_one (ps_ret (pe_bm PySem.F.plainAttrs_str PySem.F.slot_str_join PySem.F.type_str_join mt_join pe_str (pa_cons (pv 1) pa_nil)))))))), ?_⟩
  have hlen : 200000 < sizeLine := by decide +kernel
  walk_at "rd"
  refine ⟨v, t, H, rfl, Same.refl _, hT, hW, hs, hd, fun H0 S0 => ?_⟩
  walk_at "rd"
  intro D hD
  have S1 := same_new hD (.lst [])
  have hD1 := @upd_same H0 D (.lst [])
  have DH : H D = none := by
    cases e : H D with
    | none => rfl
    | some y => have := S0 _ _ e; rw [hD] at this; cases this
  generalize upd H0 D (.lst []) = H1 at *
  walk_at "rd"
  intro p0 hp0
  have S2 := same_new hp0 (.tup [V.bl false, v])
  have h2 := @upd_same H1 p0 (.tup [V.bl false, v])
  have hD2 := S2 _ _ hD1
  generalize upd H1 p0 (.tup [V.bl false, v]) = H2 at *
  walk_at "rd"
  intro E0 hE
  have S3 := same_new hE (.lst [V.ref p0])
  have hE3 := @upd_same H2 E0 (.lst [V.ref p0])
  have h3 := S3 _ _ h2
  have hD3 := S3 _ _ hD2
  have EH : H E0 = none := by
    cases e : H E0 with
    | none => rfl
    | some y => have := S2 _ _ (S1 _ _ (S0 _ _ e)); rw [hE] at this; cases this
  have nDE : D ≠ E0 := fun z => by rw [z, hE] at hD2; cases hD2
  have np0 : p0 ∉ [D, E0] := fun m => by
    simp only [List.mem_cons, List.not_mem_nil, or_false] at m
    rcases m with rfl | rfl
    · rw [hp0] at hD1; cases hD1
    · rw [hE] at h2; cases h2
  have SH := ((S0.trans S1).trans S2).trans S3
  generalize upd H2 E0 (.lst [V.ref p0]) = H3 at *
  have sG : ∀ {X : Hp}, Same H X → Same H (offs [D, E0] X) := fun {X} s b o e => by
    have n1 : b ≠ D := fun z => by rw [z, DH] at e; cases e
    have n2 : b ≠ E0 := fun z => by rw [z, EH] at e; cases e
    rw [offs_out (by simp [n1, n2])]
    exact s b o e
  have wl := wds_len hW hs
  refine gName_to ?_
  refine nx_seq ?_
  refine while_m (fun m σ X => ∃ (ws : List Str) (vs : List V) (ps : List Pc) (s3 s4 : Option V), σ = [some v, some (.ref D), some (.ref E0), s3, s4] ∧ Same H X ∧ X D = some (.lst (ws.map V.str)) ∧ X E0 = some (.lst vs.reverse) ∧ Al (PcR K (offs [D, E0] X)) vs ps ∧ (∀ p ∈ ps, PcOk p) ∧
      t.wds = ws ++ (ptoks ps).map (·.2) ∧ (∀ x ∈ ptoks ps, x.1 = true → x.2 ∉ noNames) ∧ m = (ptoks ps).length + tsz ps) ?_ ?_ ?_
  · refine ⟨_, [], [.ref p0], [.tm t], none, none, rfl, SH, hD3, hE3, Al.cons ⟨p0, false, v, rfl, SqT.of (by rw [offs_out np0]; exact h3), rfl, hT.same (sG SH)⟩ ⟨rfl, fun i a b h => by simp at h⟩, fun p m => ?_, ?_, ?_, rfl⟩
    · rw [List.mem_singleton.mp m]; exact hW
    · simp [ptoks, Pc.toks, T.wds]
    · intro x m
      simp only [ptoks, Pc.toks, List.append_nil] at m
      exact hP x m
  · rintro m σ X ⟨ws, vs, ps, s3, s4, rfl, g1, g2, g3, g4, g5, g6, g7, rfl⟩
    have hpl := ptoks_len g5
    have hwl : ws.length + (ptoks ps).length ≤ 3600 := by
      have := congrArg List.length g6
      simp at this
      omega
    walk_at "rd"
    refine ⟨!vs.reverse.isEmpty, .inl ⟨_, SqL.of g3, rfl⟩, ?_⟩
    match ps, vs, g3, g4, g5, g6, g7, hpl, hwl with
    | [], [], g3, g4, g5, g6, g7, _, _ =>
      refine ifF rfl ?_
      walk_at "rd"
      have e6 : t.wds = ws := by rw [g6]; simp [ptoks]
      refine ⟨_, D, ws, rfl, rfl, .inl (SqL.of g2), ?_, ?_⟩
      · have z := sum_le (m := 32) (l := ws) fun x m => (wds_fine hW x (by rw [e6]; exact m)).1
        have hs1 : (" " : Str).length = 1 := rfl
        have hl1 : ws.length ≤ 3600 := by rw [← e6]; exact wl
        have hm1 : ws.length * (" " : Str).length = ws.length := by rw [hs1, Nat.mul_one]
        show (ws.map (·.length)).sum + ws.length * (" " : Str).length ≤ 16777216
        rw [hm1]
        omega
      · have := q X g1
        unfold T.text at this
        rw [e6] at this
        exact this
    | p :: ps0, va :: vs0, g3, g4, g5, g6, g7, hpl, hwl =>
      obtain ⟨a, b, u, rfl, ha, hu⟩ := g4.2 0 va p rfl rfl
      have g3' : X E0 = some (.lst (vs0.reverse ++ [.ref a])) := by rw [g3, List.reverse_cons]
      refine ifT (by simp) ?_
      walk_at "rd"
      refine ⟨.inl ⟨rfl, _, SqL.of g3'⟩, ?_⟩
      walk_at "rd"
      refine ⟨E0, _, .ref a, rfl, rfl, g3', by simp, ?_⟩
      rw [List.dropLast_concat]
      have kE : KeepA [D, E0] X (upd X E0 (.lst vs0.reverse)) := KeepA.wr (by simp)
      have g1' : Same H (upd X E0 (.lst vs0.reverse)) := fun b' o e => kE b' o (by
        have n1 : b' ≠ D := fun z => by rw [z, DH] at e; cases e
        have n2 : b' ≠ E0 := fun z => by rw [z, EH] at e; cases e
        simp [n1, n2]) (g1 b' o e)
      have g2' : (upd X E0 (.lst vs0.reverse)) D = some (.lst (ws.map V.str)) := by rw [upd_ne nDE]; exact g2
      have hE' := @upd_same X E0 (.lst vs0.reverse)
      have ha' := Same.tupS (kE.offs.trans offs_same) ha
      have g4' : Al (PcR K (offs [D, E0] (upd X E0 (.lst vs0.reverse)))) vs0 ps0 := ⟨by simpa using g4.1, fun i x y hx hy => (g4.2 (i + 1) x y (by simpa using hx) (by simpa using hy)).same kE.offs⟩
      have hkE := kE.offs
      generalize upd X E0 (.lst vs0.reverse) = X1 at *
      walk_at "rd"
      refine ⟨a, _, rfl, ha', rfl, ?_⟩
      refine ⟨_, _, rfl, ⟨_, _, rfl, rfl, ?_⟩⟩
      walk_at "rd"
      cases p with
      | tm t' =>
        have hT' : Tm K (offs [D, E0] X1) u t' := hu.2.same hkE
        obtain ⟨a', xs', rfl, hx0'⟩ := hT'.tuple
        have hx' := Same.tupS offs_same hx0'
        refine ⟨_, .ty "tuple", _, _, true, rfl, .ty "tuple", tyT hx', kit_ty (by decide +kernel), _, rfl, ?_⟩
        refine ifT rfl ?_
        walk_at "rd"
        refine ⟨.inl ⟨rfl, _, SqL.of hE'⟩, ?_⟩
        walk_at "rd"
        have wt' : Wt t' := g5 _ List.mem_cons_self
        refine ⟨.ref a', t', [D, E0], rfl, fun b' m => by (simp at m; rcases m with rfl | rfl <;> (intro z; first | (rw [g2'] at z; cases z) | (rw [hE'] at z; cases z))), hT', wt', fun r H5 us S5 hr hu' hal => ?_⟩
        walk_at "rd"
        refine ⟨r, us, rfl, .inl ⟨SqL.of hu', fun p2 hp2 => ?_⟩⟩
        walk_at "rd"
        have S6 := same_new hp2 (.lst us.reverse)
        have hpcs := pcs_toks wt'
        have htsz := tsz_pcs wt'
        have hul := hal.1
        have hpl2 := ptoks_len (pcs_ok wt')
        have hps : (ptoks (Pc.tm t' :: ps0)).length = t'.toks.length + (ptoks ps0).length := by simp [ptoks, Pc.toks]
        have hv0 : vs0.length = ps0.length := by simpa using g4.1
        rw [hpcs] at hpl2
        simp only [List.length_cons] at hpl
        refine ⟨E0, p2, vs0.reverse, us.reverse, rfl, rfl, S6 _ _ (S5 _ _ hE'), .inl (SqL.of upd_same), by rw [List.length_reverse, List.length_reverse]; omega, ?_⟩
        have SA := S5.trans S6
        have kD : KeepA [D, E0] (upd H5 p2 (.lst us.reverse)) (upd (upd H5 p2 (.lst us.reverse)) E0 (.lst (vs0.reverse ++ us.reverse))) := KeepA.wr (by simp)
        have kA : KeepA [D, E0] X1 (upd (upd H5 p2 (.lst us.reverse)) E0 (.lst (vs0.reverse ++ us.reverse))) := SA.keepA.trans kD
        have nU : ∀ c o, H5 c = some o → True := fun _ _ _ => trivial
        refine ⟨(ptoks (t'.pcs ++ ps0)).length + tsz (t'.pcs ++ ps0), by rw [ptoks_app, tsz_app, hpcs, List.length_append, hps]; simp only [tsz]; omega, ws, us ++ vs0, t'.pcs ++ ps0, _, _, rfl, fun b' o e => kA b' o (by
          have n1 : b' ≠ D := fun z => by rw [z, DH] at e; cases e
          have n2 : b' ≠ E0 := fun z => by rw [z, EH] at e; cases e
          simp [n1, n2]) (g1' b' o e), by rw [upd_ne nDE]; exact SA _ _ g2', by rw [upd_same, List.reverse_append], ?_, ?_, by rw [g6, ptoks_app, hpcs]; simp [ptoks, Pc.toks], ?_, rfl⟩
        · exact Al.app (hal.mono fun _ _ _ z => z.same ((S6.keepA).trans kD).offs) (g4'.mono fun _ _ _ z => z.same kA.offs)
        · intro p m
          rcases List.mem_append.mp m with m | m
          · exact pcs_ok wt' p m
          · exact g5 p (List.mem_cons_of_mem _ m)
        · intro x m
          rw [ptoks_app, hpcs] at m
          exact g7 x (by simpa [ptoks, Pc.toks] using m)
      | w y =>
        obtain ⟨rfl, rfl⟩ := hu
        refine ⟨_, .ty "tuple", _, _, false, rfl, .ty "tuple", .base (.str _), kit_ty (by decide +kernel), _, rfl, ?_⟩
        refine ifF rfl ?_
        walk_at "rd"
        refine ⟨.inl ⟨rfl, _, SqL.of g2'⟩, ?_⟩
        walk_at "rd"
        refine .inr ⟨_, rfl, ?_⟩
        walk_at "rd"
        refine ⟨D, _, _, rfl, rfl, g2', by rw [List.length_map]; omega, ?_⟩
        have kD : KeepA [D, E0] X1 (upd X1 D (.lst (ws.map V.str ++ [V.str y]))) := KeepA.wr (by simp)
        refine ⟨(ptoks ps0).length + tsz ps0, by simp [ptoks, Pc.toks, tsz], ws ++ [y], vs0, ps0, _, _, rfl, fun b' o e => kD b' o (by
          have n1 : b' ≠ D := fun z => by rw [z, DH] at e; cases e
          have n2 : b' ≠ E0 := fun z => by rw [z, EH] at e; cases e
          simp [n1, n2]) (g1' b' o e), by rw [upd_same, List.map_append]; rfl, by rw [upd_ne nDE.symm]; exact hE', g4'.mono fun _ _ _ z => z.same kD.offs, fun p m => g5 p (List.mem_cons_of_mem _ m), by rw [g6]; simp [ptoks, Pc.toks, wd, nmW], fun x m => g7 x (by simp [ptoks, m]), rfl⟩
      | nm y =>
        obtain ⟨rfl, rfl⟩ := hu
        refine ⟨_, .ty "tuple", _, _, false, rfl, .ty "tuple", .base (.str _), kit_ty (by decide +kernel), _, rfl, ?_⟩
        refine ifF rfl ?_
        walk_at "rd"
        refine ⟨NA, _, rfl, .inr (hNA _), rfl, by decide +kernel, _, rfl, ?_⟩
        have hny : y ∉ noNames := g7 (nmW y) (by simp [ptoks, Pc.toks]) rfl
        refine ifF (by rw [if_neg Bool.false_ne_true, inV_strs]; exact decide_eq_false hny) ?_
        walk_at "rd"
        refine ⟨.inl ⟨rfl, _, SqL.of g2'⟩, ?_⟩
        walk_at "rd"
        refine .inr ⟨_, rfl, ?_⟩
        walk_at "rd"
        refine ⟨D, _, _, rfl, rfl, g2', by rw [List.length_map]; omega, ?_⟩
        have kD : KeepA [D, E0] X1 (upd X1 D (.lst (ws.map V.str ++ [V.str y]))) := KeepA.wr (by simp)
        refine ⟨(ptoks ps0).length + tsz ps0, by simp [ptoks, Pc.toks, tsz], ws ++ [y], vs0, ps0, _, _, rfl, fun b' o e => kD b' o (by
          have n1 : b' ≠ D := fun z => by rw [z, DH] at e; cases e
          have n2 : b' ≠ E0 := fun z => by rw [z, EH] at e; cases e
          simp [n1, n2]) (g1' b' o e), by rw [upd_same, List.map_append]; rfl, by rw [upd_ne nDE.symm]; exact hE', g4'.mono fun _ _ _ z => z.same kD.offs, fun p m => g5 p (List.mem_cons_of_mem _ m), by rw [g6]; simp [ptoks, Pc.toks, wd, nmW], fun x m => g7 x (by simp [ptoks, m]), rfl⟩
      | num y =>
        obtain ⟨rfl, rfl⟩ := hu
        refine ⟨_, .ty "tuple", _, _, false, rfl, .ty "tuple", .base (.int _), kit_ty (by decide +kernel), _, rfl, ?_⟩
        refine ifF rfl ?_
        walk_at "rd"
        have hk : -(10 ^ 30) ≤ y ∧ y ≤ 10 ^ 30 := g5 _ List.mem_cons_self
        have hlog : y.natAbs.log2 < 1920 := by
          have h1 : y.natAbs ≤ 10 ^ 30 := by omega
          by_cases z : y.natAbs = 0
          · rw [z]; decide
          · exact Nat.lt_of_lt_of_le ((Nat.log2_lt z).mpr (show y.natAbs < 2 ^ 100 by omega)) (by decide)
        refine ⟨NA, _, rfl, .inr (hNA _), rfl, by decide +kernel, _, rfl, ?_⟩
        refine ifF (by rw [if_neg Bool.false_ne_true]; rfl) ?_
        walk_at "rd"
        refine ⟨.inl ⟨rfl, _, SqL.of g2'⟩, ?_⟩
        walk_at "rd"
        refine ⟨D, _, _, rfl, rfl, g2', by rw [List.length_map]; omega, ?_⟩
        have kD : KeepA [D, E0] X1 (upd X1 D (.lst (ws.map V.str ++ [V.str (intS y)]))) := KeepA.wr (by simp)
        refine ⟨(ptoks ps0).length + tsz ps0, by simp [ptoks, Pc.toks, tsz], ws ++ [intS y], vs0, ps0, _, _, rfl, fun b' o e => kD b' o (by
          have n1 : b' ≠ D := fun z => by rw [z, DH] at e; cases e
          have n2 : b' ≠ E0 := fun z => by rw [z, EH] at e; cases e
          simp [n1, n2]) (g1' b' o e), by rw [upd_same, List.map_append]; rfl, by rw [upd_ne nDE.symm]; exact hE', g4'.mono fun _ _ _ z => z.same kD.offs, fun p m => g5 p (List.mem_cons_of_mem _ m), by rw [g6]; simp [ptoks, Pc.toks, wd, nmW], fun x m => g7 x (by simp [ptoks, m]), rfl⟩
    | [], _ :: _, _, g4, _, _, _, _, _ => exact absurd g4.1 (by simp)
    | _ :: _, [], _, g4, _, _, _, _, _ => exact absurd g4.1 (by simp)
  · intro σ X Q1 Q2 m z
    obtain ⟨x, e, k, e1, z⟩ := z
    exact ⟨x, e, k, e1, m _ _ z⟩
end
end Vt


set_option Elab.async false
set_option linter.all false
set_option maxRecDepth 100000
set_option maxHeartbeats 4000000

namespace Vt
open PySem PySem.Spec PyProof.Rows L2 TL
/-! ### the text of a term, or the first of its names that is no name in texts -/
def badsOf (l : List Wd) : List Str := (l.filter fun x => x.1 && decide (x.2 ∈ noNames)).map (·.2)
def spTextAny (K : PySem.W.Frag) (C : Addr) : Sp := fun vs H Q E => ∃ (v : V) (t : T), vs = [v] ∧ Tm K H v t ∧ Wt t ∧ t.size ≤ 400 ∧ t.deep ≤ 100 ∧
  (badsOf t.toks = [] → ∀ H', Same H H' → Q (.str t.text) H') ∧
  ∀ (b : Str) (r : List Str), badsOf t.toks = b :: r → ∀ (H1 : Hp) (x : Addr), Same H H1 → H1 x = none → E (.ref C) (some x) (upd H1 x (.xd [("name", .str b)]))
section
variable {P : Program} {w : World} {K : PySem.W.Frag} {mg : Str → Option Value} {base : Heap} {C0 fI : Addr}
theorem ok_text_any (S : Stands K mg "term_text" s_term_text ["term"]) (Z : Blt mg) (C : Cst4 K mg) (T_in : HasInvalidName K mg C0 fI) (H_check_term : DefOk P w K mg base CX0 8 "check_term" ["value"] (spChecked K)) (H_pieces_of : DefOk P w K mg base CX0 2 "pieces_of" ["node"] (spPieces K)) : DefOk P w K mg base (L2.CX P w) 9 "term_text" ["term"] (spTextAny K C0) := by
  have z_isinstance := Z.isinstance
  have z_tuple := Z.tuple
  have z_str := Z.str
  obtain ⟨NA, c_NO_NAMES, hNA⟩ := C.noN
  have c_NO_NAMES_r : RelV (.ref NA) (Value.ref NA) := rfl
  obtain ⟨f, fd, F, hm, hb⟩ := S
  obtain ⟨f_check_term, fd_check_term, G_check_term, m_check_term, k_check_term, b_check_term⟩ := H_check_term
  obtain ⟨f_pieces_of, fd_pieces_of, G_pieces_of, m_pieces_of, k_pieces_of, b_pieces_of⟩ := H_pieces_of
  refine ⟨f, fd, ?_, hm, F.kp, hb⟩
  have nd := sc_term_text.nd
  refine F.okX sc_term_text (fun vs H Q E h => ?_) (fun cdv A outer s0 H vs Q E hr h => ?_)
  · obtain ⟨v, t, rfl, _⟩ := h
    rfl
  obtain ⟨v, t, rfl, hT, hW, hs, hd, q1, q2⟩ := h
  refine ⟨_, (pss_cons (ps_expr (pe_call G_check_term (hr.mono (by decide)) rfl m_check_term k_check_term b_check_term .nil pass0 (pa_cons (pv 0) pa_nil)))
      (pss_cons (ps_set (i := 1) nd rfl (Or.inl rfl) (pe_lst pa_nil))
      (pss_cons (ps_set (i := 2) nd rfl (Or.inl rfl) (pe_lst (pa_cons (pe_tup (pa_cons pe_bl (pa_cons (pv 0) pa_nil))) pa_nil)))
      (pss_cons (ps_while (passes_of rfl) (pt_truth (pv 2) (by intro _; rfl)) (pss_cons (ps_asg (pe_bm0 PySem.F.plainAttrs_list PySem.F.slot_list_pop PySem.F.type_list_pop mt_pop (pv 2)) (pg_tup rfl (pgs_cons (pg_name (i := 3) nd rfl (Or.inl rfl)) (pgs_cons (pg_name (i := 4) nd rfl (Or.inl rfl)) pgs_nil))))
      (pss_cons (ps_if (pt_val (pe_callB call_isi (by rfl) z_isinstance (by decide +kernel) (pa_cons (pv 4) (pa_cons (pe_bltn (v := .ty "tuple") (by rfl) z_tuple (by decide +kernel) rfl) pa_nil)))) (pss_cons (ps_expr (pe_bm PySem.F.plainAttrs_list PySem.F.slot_list_extend PySem.F.type_list_extend mt_extA (pv 2) (pa_cons (pe_rev (pe_call G_pieces_of (hr.mono (by decide)) rfl m_pieces_of k_pieces_of b_pieces_of .nil pass0 (pa_cons (pv 4) pa_nil))) pa_nil)))
      (pss_one ps_continue)) pss_nil)
      (pss_cons (ps_if (PW.pt (pw_and (pt_not (pt_truth (pv 3) (by intro _; rfl))) (pw_and1 (pt_cmpR op_in_seq (pv 4) (pe_glob rfl c_NO_NAMES c_NO_NAMES_r) (by rfl))))) (pss_one (raise_InvalidName (k := 1) rfl T_in (hr.mono (by decide)) (takes_of rfl rfl rfl rfl) (pa_cons (pv 4) pa_nil))) pss_nil)
      (pss_one (ps_expr (pe_bm PySem.F.plainAttrs_list PySem.F.slot_list_append PySem.F.type_list_append mt_append (pv 1) (pa_cons (pe_callTy (call_str_int.or SkE.call_str_str) (by rfl) z_str (by decide +kernel) (pa_cons (pv 4) pa_nil)) pa_nil))))))))
      (pss_one (ps_ret (pe_bm PySem.F.plainAttrs_str PySem.F.slot_str_join PySem.F.type_str_join mt_join pe_str (pa_cons (pv 1) pa_nil)))))))), ?_⟩
  have hlen : 200000 < sizeLine := by decide +kernel
  walk_at "rd"
  refine ⟨v, t, H, rfl, Same.refl _, hT, hW, hs, hd, fun H0 S0 => ?_⟩
  walk_at "rd"
  intro D hD
  have S1 := same_new hD (.lst [])
  have hD1 := @upd_same H0 D (.lst [])
  have DH : H D = none := by
    cases e : H D with
    | none => rfl
    | some y => have := S0 _ _ e; rw [hD] at this; cases this
  generalize upd H0 D (.lst []) = H1 at *
  walk_at "rd"
  intro p0 hp0
  have S2 := same_new hp0 (.tup [V.bl false, v])
  have h2 := @upd_same H1 p0 (.tup [V.bl false, v])
  have hD2 := S2 _ _ hD1
  generalize upd H1 p0 (.tup [V.bl false, v]) = H2 at *
  walk_at "rd"
  intro E0 hE
  have S3 := same_new hE (.lst [V.ref p0])
  have hE3 := @upd_same H2 E0 (.lst [V.ref p0])
  have h3 := S3 _ _ h2
  have hD3 := S3 _ _ hD2
  have EH : H E0 = none := by
    cases e : H E0 with
    | none => rfl
    | some y => have := S2 _ _ (S1 _ _ (S0 _ _ e)); rw [hE] at this; cases this
  have nDE : D ≠ E0 := fun z => by rw [z, hE] at hD2; cases hD2
  have np0 : p0 ∉ [D, E0] := fun m => by
    simp only [List.mem_cons, List.not_mem_nil, or_false] at m
    rcases m with rfl | rfl
    · rw [hp0] at hD1; cases hD1
    · rw [hE] at h2; cases h2
  have SH := ((S0.trans S1).trans S2).trans S3
  generalize upd H2 E0 (.lst [V.ref p0]) = H3 at *
  have sG : ∀ {X : Hp}, Same H X → Same H (offs [D, E0] X) := fun {X} s b o e => by
    have n1 : b ≠ D := fun z => by rw [z, DH] at e; cases e
    have n2 : b ≠ E0 := fun z => by rw [z, EH] at e; cases e
    rw [offs_out (by simp [n1, n2])]
    exact s b o e
  have wl := wds_len hW hs
  refine gName_to ?_
  refine nx_seq ?_
  refine while_m (fun m σ X => ∃ (ws : List Str) (vs : List V) (ps : List Pc) (s3 s4 : Option V), σ = [some v, some (.ref D), some (.ref E0), s3, s4] ∧ Same H X ∧ X D = some (.lst (ws.map V.str)) ∧ X E0 = some (.lst vs.reverse) ∧ Al (PcR K (offs [D, E0] X)) vs ps ∧ (∀ p ∈ ps, PcOk p) ∧
      t.wds = ws ++ (ptoks ps).map (·.2) ∧ badsOf (ptoks ps) = badsOf t.toks ∧ m = (ptoks ps).length + tsz ps) ?_ ?_ ?_
  · refine ⟨_, [], [.ref p0], [.tm t], none, none, rfl, SH, hD3, hE3, Al.cons ⟨p0, false, v, rfl, SqT.of (by rw [offs_out np0]; exact h3), rfl, hT.same (sG SH)⟩ ⟨rfl, fun i a b h => by simp at h⟩, fun p m => ?_, ?_, ?_, rfl⟩
    · rw [List.mem_singleton.mp m]; exact hW
    · simp [ptoks, Pc.toks, T.wds]
    · simp only [ptoks, Pc.toks, List.append_nil]
  · rintro m σ X ⟨ws, vs, ps, s3, s4, rfl, g1, g2, g3, g4, g5, g6, g7, rfl⟩
    have hpl := ptoks_len g5
    have hwl : ws.length + (ptoks ps).length ≤ 3600 := by
      have := congrArg List.length g6
      simp at this
      omega
    walk_at "rd"
    refine ⟨!vs.reverse.isEmpty, .inl ⟨_, SqL.of g3, rfl⟩, ?_⟩
    match ps, vs, g3, g4, g5, g6, g7, hpl, hwl with
    | [], [], g3, g4, g5, g6, g7, _, _ =>
      refine ifF rfl ?_
      walk_at "rd"
      have e6 : t.wds = ws := by rw [g6]; simp [ptoks]
      refine ⟨_, D, ws, rfl, rfl, .inl (SqL.of g2), ?_, ?_⟩
      · have z := sum_le (m := 32) (l := ws) fun x m => (wds_fine hW x (by rw [e6]; exact m)).1
        have hs1 : (" " : Str).length = 1 := rfl
        have hl1 : ws.length ≤ 3600 := by rw [← e6]; exact wl
        have hm1 : ws.length * (" " : Str).length = ws.length := by rw [hs1, Nat.mul_one]
        show (ws.map (·.length)).sum + ws.length * (" " : Str).length ≤ 16777216
        rw [hm1]
        omega
      · have := q1 (by rw [← g7]; rfl) X g1
        unfold T.text at this
        rw [e6] at this
        exact this
    | p :: ps0, va :: vs0, g3, g4, g5, g6, g7, hpl, hwl =>
      obtain ⟨a, b, u, rfl, ha, hu⟩ := g4.2 0 va p rfl rfl
      have g3' : X E0 = some (.lst (vs0.reverse ++ [.ref a])) := by rw [g3, List.reverse_cons]
      refine ifT (by simp) ?_
      walk_at "rd"
      refine ⟨.inl ⟨rfl, _, SqL.of g3'⟩, ?_⟩
      walk_at "rd"
      refine ⟨E0, _, .ref a, rfl, rfl, g3', by simp, ?_⟩
      rw [List.dropLast_concat]
      have kE : KeepA [D, E0] X (upd X E0 (.lst vs0.reverse)) := KeepA.wr (by simp)
      have g1' : Same H (upd X E0 (.lst vs0.reverse)) := fun b' o e => kE b' o (by
        have n1 : b' ≠ D := fun z => by rw [z, DH] at e; cases e
        have n2 : b' ≠ E0 := fun z => by rw [z, EH] at e; cases e
        simp [n1, n2]) (g1 b' o e)
      have g2' : (upd X E0 (.lst vs0.reverse)) D = some (.lst (ws.map V.str)) := by rw [upd_ne nDE]; exact g2
      have hE' := @upd_same X E0 (.lst vs0.reverse)
      have ha' := Same.tupS (kE.offs.trans offs_same) ha
      have g4' : Al (PcR K (offs [D, E0] (upd X E0 (.lst vs0.reverse)))) vs0 ps0 := ⟨by simpa using g4.1, fun i x y hx hy => (g4.2 (i + 1) x y (by simpa using hx) (by simpa using hy)).same kE.offs⟩
      have hkE := kE.offs
      generalize upd X E0 (.lst vs0.reverse) = X1 at *
      walk_at "rd"
      refine ⟨a, _, rfl, ha', rfl, ?_⟩
      refine ⟨_, _, rfl, ⟨_, _, rfl, rfl, ?_⟩⟩
      walk_at "rd"
      cases p with
      | tm t' =>
        have hT' : Tm K (offs [D, E0] X1) u t' := hu.2.same hkE
        obtain ⟨a', xs', rfl, hx0'⟩ := hT'.tuple
        have hx' := Same.tupS offs_same hx0'
        refine ⟨_, .ty "tuple", _, _, true, rfl, .ty "tuple", tyT hx', kit_ty (by decide +kernel), _, rfl, ?_⟩
        refine ifT rfl ?_
        walk_at "rd"
        refine ⟨.inl ⟨rfl, _, SqL.of hE'⟩, ?_⟩
        walk_at "rd"
        have wt' : Wt t' := g5 _ List.mem_cons_self
        refine ⟨.ref a', t', [D, E0], rfl, fun b' m => by (simp at m; rcases m with rfl | rfl <;> (intro z; first | (rw [g2'] at z; cases z) | (rw [hE'] at z; cases z))), hT', wt', fun r H5 us S5 hr hu' hal => ?_⟩
        walk_at "rd"
        refine ⟨r, us, rfl, .inl ⟨SqL.of hu', fun p2 hp2 => ?_⟩⟩
        walk_at "rd"
        have S6 := same_new hp2 (.lst us.reverse)
        have hpcs := pcs_toks wt'
        have htsz := tsz_pcs wt'
        have hul := hal.1
        have hpl2 := ptoks_len (pcs_ok wt')
        have hps : (ptoks (Pc.tm t' :: ps0)).length = t'.toks.length + (ptoks ps0).length := by simp [ptoks, Pc.toks]
        have hv0 : vs0.length = ps0.length := by simpa using g4.1
        rw [hpcs] at hpl2
        simp only [List.length_cons] at hpl
        refine ⟨E0, p2, vs0.reverse, us.reverse, rfl, rfl, S6 _ _ (S5 _ _ hE'), .inl (SqL.of upd_same), by rw [List.length_reverse, List.length_reverse]; omega, ?_⟩
        have SA := S5.trans S6
        have kD : KeepA [D, E0] (upd H5 p2 (.lst us.reverse)) (upd (upd H5 p2 (.lst us.reverse)) E0 (.lst (vs0.reverse ++ us.reverse))) := KeepA.wr (by simp)
        have kA : KeepA [D, E0] X1 (upd (upd H5 p2 (.lst us.reverse)) E0 (.lst (vs0.reverse ++ us.reverse))) := SA.keepA.trans kD
        have nU : ∀ c o, H5 c = some o → True := fun _ _ _ => trivial
        refine ⟨(ptoks (t'.pcs ++ ps0)).length + tsz (t'.pcs ++ ps0), by rw [ptoks_app, tsz_app, hpcs, List.length_append, hps]; simp only [tsz]; omega, ws, us ++ vs0, t'.pcs ++ ps0, _, _, rfl, fun b' o e => kA b' o (by
          have n1 : b' ≠ D := fun z => by rw [z, DH] at e; cases e
          have n2 : b' ≠ E0 := fun z => by rw [z, EH] at e; cases e
          simp [n1, n2]) (g1' b' o e), by rw [upd_ne nDE]; exact SA _ _ g2', by rw [upd_same, List.reverse_append], ?_, ?_, by rw [g6, ptoks_app, hpcs]; simp [ptoks, Pc.toks], ?_, rfl⟩
        · exact Al.app (hal.mono fun _ _ _ z => z.same ((S6.keepA).trans kD).offs) (g4'.mono fun _ _ _ z => z.same kA.offs)
        · intro p m
          rcases List.mem_append.mp m with m | m
          · exact pcs_ok wt' p m
          · exact g5 p (List.mem_cons_of_mem _ m)
        · rw [ptoks_app, hpcs]
          simpa [ptoks, Pc.toks] using g7
      | w y =>
        obtain ⟨rfl, rfl⟩ := hu
        refine ⟨_, .ty "tuple", _, _, false, rfl, .ty "tuple", .base (.str _), kit_ty (by decide +kernel), _, rfl, ?_⟩
        refine ifF rfl ?_
        walk_at "rd"
        refine ⟨.inl ⟨rfl, _, SqL.of g2'⟩, ?_⟩
        walk_at "rd"
        refine .inr ⟨_, rfl, ?_⟩
        walk_at "rd"
        refine ⟨D, _, _, rfl, rfl, g2', by rw [List.length_map]; omega, ?_⟩
        have kD : KeepA [D, E0] X1 (upd X1 D (.lst (ws.map V.str ++ [V.str y]))) := KeepA.wr (by simp)
        refine ⟨(ptoks ps0).length + tsz ps0, by simp [ptoks, Pc.toks, tsz], ws ++ [y], vs0, ps0, _, _, rfl, fun b' o e => kD b' o (by
          have n1 : b' ≠ D := fun z => by rw [z, DH] at e; cases e
          have n2 : b' ≠ E0 := fun z => by rw [z, EH] at e; cases e
          simp [n1, n2]) (g1' b' o e), by rw [upd_same, List.map_append]; rfl, by rw [upd_ne nDE.symm]; exact hE', g4'.mono fun _ _ _ z => z.same kD.offs, fun p m => g5 p (List.mem_cons_of_mem _ m), by rw [g6]; simp [ptoks, Pc.toks, wd, nmW], by simpa [ptoks, Pc.toks, badsOf, wd] using g7, rfl⟩
      | nm y =>
        obtain ⟨rfl, rfl⟩ := hu
        refine ⟨_, .ty "tuple", _, _, false, rfl, .ty "tuple", .base (.str _), kit_ty (by decide +kernel), _, rfl, ?_⟩
        refine ifF rfl ?_
        walk_at "rd"
        refine ⟨NA, _, rfl, .inr (hNA _), rfl, by decide +kernel, _, rfl, ?_⟩
        by_cases hny : y ∈ noNames
        · refine ifT (by rw [if_neg Bool.false_ne_true, inV_strs]; exact decide_eq_true hny) ?_
          have ey : badsOf t.toks = y :: badsOf (ptoks ps0) := by
            rw [← g7]
            simp [ptoks, Pc.toks, badsOf, nmW, hny]
          exact ⟨_, rfl, _, rfl, fun x hx => q2 _ _ ey X1 x g1' hx⟩
        refine ifF (by rw [if_neg Bool.false_ne_true, inV_strs]; exact decide_eq_false hny) ?_
        walk_at "rd"
        refine ⟨.inl ⟨rfl, _, SqL.of g2'⟩, ?_⟩
        walk_at "rd"
        refine .inr ⟨_, rfl, ?_⟩
        walk_at "rd"
        refine ⟨D, _, _, rfl, rfl, g2', by rw [List.length_map]; omega, ?_⟩
        have kD : KeepA [D, E0] X1 (upd X1 D (.lst (ws.map V.str ++ [V.str y]))) := KeepA.wr (by simp)
        refine ⟨(ptoks ps0).length + tsz ps0, by simp [ptoks, Pc.toks, tsz], ws ++ [y], vs0, ps0, _, _, rfl, fun b' o e => kD b' o (by
          have n1 : b' ≠ D := fun z => by rw [z, DH] at e; cases e
          have n2 : b' ≠ E0 := fun z => by rw [z, EH] at e; cases e
          simp [n1, n2]) (g1' b' o e), by rw [upd_same, List.map_append]; rfl, by rw [upd_ne nDE.symm]; exact hE', g4'.mono fun _ _ _ z => z.same kD.offs, fun p m => g5 p (List.mem_cons_of_mem _ m), by rw [g6]; simp [ptoks, Pc.toks, wd, nmW], by simpa [ptoks, Pc.toks, badsOf, nmW, hny] using g7, rfl⟩
      | num y =>
        obtain ⟨rfl, rfl⟩ := hu
        refine ⟨_, .ty "tuple", _, _, false, rfl, .ty "tuple", .base (.int _), kit_ty (by decide +kernel), _, rfl, ?_⟩
        refine ifF rfl ?_
        walk_at "rd"
        have hk : -(10 ^ 30) ≤ y ∧ y ≤ 10 ^ 30 := g5 _ List.mem_cons_self
        have hlog : y.natAbs.log2 < 1920 := by
          have h1 : y.natAbs ≤ 10 ^ 30 := by omega
          by_cases z : y.natAbs = 0
          · rw [z]; decide
          · exact Nat.lt_of_lt_of_le ((Nat.log2_lt z).mpr (show y.natAbs < 2 ^ 100 by omega)) (by decide)
        refine ⟨NA, _, rfl, .inr (hNA _), rfl, by decide +kernel, _, rfl, ?_⟩
        refine ifF (by rw [if_neg Bool.false_ne_true]; rfl) ?_
        walk_at "rd"
        refine ⟨.inl ⟨rfl, _, SqL.of g2'⟩, ?_⟩
        walk_at "rd"
        refine ⟨D, _, _, rfl, rfl, g2', by rw [List.length_map]; omega, ?_⟩
        have kD : KeepA [D, E0] X1 (upd X1 D (.lst (ws.map V.str ++ [V.str (intS y)]))) := KeepA.wr (by simp)
        refine ⟨(ptoks ps0).length + tsz ps0, by simp [ptoks, Pc.toks, tsz], ws ++ [intS y], vs0, ps0, _, _, rfl, fun b' o e => kD b' o (by
          have n1 : b' ≠ D := fun z => by rw [z, DH] at e; cases e
          have n2 : b' ≠ E0 := fun z => by rw [z, EH] at e; cases e
          simp [n1, n2]) (g1' b' o e), by rw [upd_same, List.map_append]; rfl, by rw [upd_ne nDE.symm]; exact hE', g4'.mono fun _ _ _ z => z.same kD.offs, fun p m => g5 p (List.mem_cons_of_mem _ m), by rw [g6]; simp [ptoks, Pc.toks, wd, nmW], by simpa [ptoks, Pc.toks, badsOf, wd] using g7, rfl⟩
    | [], _ :: _, _, g4, _, _, _, _, _ => exact absurd g4.1 (by simp)
    | _ :: _, [], _, g4, _, _, _, _, _ => exact absurd g4.1 (by simp)
  · intro σ X Q1 Q2 m z
    obtain ⟨x, e, k, e1, z⟩ := z
    exact ⟨x, e, k, e1, m _ _ z⟩
end
end Vt


set_option Elab.async false
set_option linter.all false
set_option maxRecDepth 100000
set_option maxHeartbeats 4000000

namespace Vt
open PySem PySem.Spec PyProof.Rows L2 PySem.TX
/-! ### names that begin with words of texts -/
def ownN : List Str := ["index", "inn", "letter", "function", "often", "within", "truex", "falsely", "iff", "thence", "elsewhen", "recs"]
theorem own_ok : ∀ n ∈ ownN, isNm n := by decide +kernel
def spOwn : Sp := fun vs H Q _ => ∃ s : Addr, vs = [.ref s] ∧ Src H s ∧ ∀ (x : Str) (H' : Hp), x ∈ ownN → Keep s H H' → Src H' s → Q (.str x) H'
abbrev s_law_own_name : Stmt := topS 77
abbrev N_law_own_name : List Str := ["source", "some"]
theorem sc_law_own_name : FnScope N_law_own_name ["source"] (defScope s_law_own_name) := ⟨rfl, rfl, rfl, by decide +kernel, rfl, by decide +kernel, by decide +kernel⟩
section
variable {P : Program} {w : World} {K : PySem.W.Frag} {mg : Str → Option Value} {base : Heap}
theorem ok_own (S : Stands K mg "_law_own_name" s_law_own_name ["source"]) (H_law_one : DefOk P w K mg base CX0 2 "_law_one" ["source", "some"] (spOne K)) : DefOk P w K mg base CX0 3 "_law_own_name" ["source"] spOwn := by
  obtain ⟨f, fd, F, hm, hb⟩ := S
  obtain ⟨f_law_one, fd_law_one, G_law_one, m_law_one, k_law_one, b_law_one⟩ := H_law_one
  refine ⟨f, fd, ?_, hm, F.kp, hb⟩
  have nd := sc_law_own_name.nd
  refine F.ok sc_law_own_name (fun vs H Q E h => ?_) (fun cdv A outer s0 H vs Q E hr h => ?_)
  · obtain ⟨s, rfl, _⟩ := h
    rfl
  obtain ⟨s, rfl, hs, q⟩ := h
  refine ⟨_, (pss_cons (ps_set (i := 1) nd rfl (Or.inl rfl) (pe_lst (pa_cons pe_str (pa_cons pe_str (pa_cons pe_str (pa_cons pe_str (pa_cons pe_str (pa_cons pe_str (pa_cons pe_str (pa_cons pe_str (pa_cons pe_str (pa_cons pe_str (pa_cons pe_str pa_nil)))))))))))))
      (pss_one (ps_ret (pe_call G_law_one (hr.mono (by omega)) rfl m_law_one k_law_one b_law_one .nil pass0 (pa_cons (pv 0) (pa_cons (pe_op op_cat (pv 1) (pe_lst (pa_cons pe_str pa_nil))) pa_nil)))))), ?_⟩
  walk_at "rd"
  intro p1 h1
  have S1 := same_new h1 (.lst ((ownN.take 11).map V.str))
  have l1 := @upd_same H p1 (.lst ((ownN.take 11).map V.str))
  show gName 1 (V.ref p1) _ (upd H p1 (.lst ((ownN.take 11).map V.str))) _
  generalize upd H p1 (.lst ((ownN.take 11).map V.str)) = H1 at *
  walk_at "rd"
  intro p2 h2
  have S2 := same_new h2 (.lst [V.str "recs"])
  have l2 := @upd_same H1 p2 (.lst [V.str "recs"])
  have l1' := S2 _ _ l1
  generalize upd H1 p2 (.lst [V.str "recs"]) = H2 at *
  refine ⟨p1, p2, _, _, rfl, rfl, l1', l2, sz (by decide), fun p3 h3 => ?_⟩
  have S3 := (S1.trans S2).trans (same_new h3 (.lst ((ownN.take 11).map V.str ++ [V.str "recs"])))
  walk_at "rd"
  refine ⟨s, p3, ownN.map V.str, rfl, hs.same S3, SqL.of upd_same, no3_strs ownN, by decide, by decide, fun v H7 hv k7 c7 => ?_⟩
  obtain ⟨x, hx, rfl⟩ := List.mem_map.mp hv
  exact q x H7 hx (S3.keep.trans k7) c7
end
end Vt


set_option Elab.async false
set_option linter.all false
set_option maxRecDepth 100000
set_option maxHeartbeats 4000000

namespace Vt
open PySem PySem.Spec PyProof.Rows L2 PySem.TX
/-! ### broad terms whose names begin with words of texts -/
theorem nodup_le {α : Type} [DecidableEq α] : ∀ {xs ys : List α}, xs.Nodup → (∀ x ∈ xs, x ∈ ys) → xs.length ≤ ys.length
  | [], _, _, _ => Nat.zero_le _
  | x :: xs, ys, h, s => by
    have h' := List.nodup_cons.mp h
    have hx : x ∈ ys := s x List.mem_cons_self
    have ih := nodup_le (xs := xs) (ys := ys.erase x) h'.2 fun z hz => (List.mem_erase_of_ne (fun e => h'.1 (by rw [← e]; exact hz))).mpr (s z (List.mem_cons_of_mem _ hz))
    rw [List.length_erase_of_mem hx] at ih
    have : 0 < ys.length := List.length_pos_of_mem hx
    rw [List.length_cons]
    omega
theorem sorted_lt {l : List Str} (h : sortedS l = true) (n : l.Nodup) : l.Pairwise strLt := by
  refine ((sorted_le h).and n).imp fun {a b} ⟨le, ne⟩ => ?_
  by_cases lt : a.cps.toList < b.cps.toList
  · exact lt
  · exact absurd (cps_inj (List.le_antisymm le (List.not_lt.mp lt))) ne
theorem pow30 {k : Nat} (h : k ≤ 30) : (10 : Int) ^ k ≤ 10 ^ 30 := by
  have := Nat.pow_le_pow_right (n := 10) (by decide) h
  exact_mod_cast this
/-- a term whose names are names in texts -/
inductive Wnm : T → Prop
  | mk {h ks} : okHdW h ks.length → okRec h ks → (∀ t ∈ ks, Wnm t) → Wnm (.node h ks)
theorem Wf.wn {t : T} (w : Wf t) : Wnm t := by
  induction w with
  | mk a b _ _ ih => exact .mk a b ih
theorem Wnm.wt {t : T} (w : Wnm t) : Wt t := by
  induction w with
  | mk a b _ ih => exact .mk a.ok b ih
/-- how many nodes a broad term may have -/
def wsz : Nat → Nat
  | 0 => 1
  | d + 1 => 12 * wsz d + 1
theorem wsz_pos : ∀ d, 1 ≤ wsz d
  | 0 => Nat.le_refl _
  | d + 1 => by simp only [wsz]; omega
def Broad (d : Nat) (t : T) : Prop := Wnm t ∧ t.size ≤ wsz d ∧ t.deep ≤ 2 * d + 1
theorem broad0 {h : Hd} (a : okHdW h 0) (b : okRec h []) : Broad 0 (.node h []) := ⟨.mk a b (fun t m => by cases m), by simp [T.size, T.sizes, wsz], by simp [T.deep, T.deeps]⟩
def spWide (K : PySem.W.Frag) (n : Nat) : Sp := fun vs H Q _ => ∃ (s : Addr) (d : Nat), vs = [.ref s, .int (d : Nat)] ∧ Src H s ∧ d < n ∧ d ≤ 7 ∧
  ∀ (v : V) (H' : Hp) (t : T), Keep s H H' → Src H' s → Tm K (nw H H') v t → Broad d t → Q v H'
abbrev s_law_wide : Stmt := topS 78
abbrev N_law_wide : List Str := ["source", "deep", "own", "far", "k", "some", "way", "low", "size", "labels", "label"]
theorem sc_law_wide : FnScope N_law_wide ["source", "deep"] (defScope s_law_wide) := ⟨rfl, rfl, rfl, by decide +kernel, rfl, by decide +kernel, by decide +kernel⟩
section
variable {P : Program} {w : World} {K : PySem.W.Frag} {mg : Str → Option Value} {base : Heap}
theorem ok_wide {n : Nat} (S : Stands K mg "_law_wide" s_law_wide ["source", "deep"]) (Z : Blt mg) (H_law_next : DefOk P w K mg base CX0 1 "_law_next" ["source", "many"] spNext) (H_law_one : DefOk P w K mg base CX0 2 "_law_one" ["source", "some"] (spOne K))
    (H_law_own_name : DefOk P w K mg base CX0 3 "_law_own_name" ["source"] spOwn)
    (H_law_wide : DefOk P w K mg base CX0 (n + 4) "_law_wide" ["source", "deep"] (spWide K n)) : DefOk P w K mg base CX0 (n + 5) "_law_wide" ["source", "deep"] (spWide K (n + 1)) := by
  have z_range := Z.range
  have z_set := Z.set
  have z_sorted := Z.sorted
  obtain ⟨f, fd, F, hm, hb⟩ := S
  obtain ⟨f_law_next, fd_law_next, G_law_next, m_law_next, k_law_next, b_law_next⟩ := H_law_next
  obtain ⟨f_law_one, fd_law_one, G_law_one, m_law_one, k_law_one, b_law_one⟩ := H_law_one
  obtain ⟨f_law_own_name, fd_law_own_name, G_law_own_name, m_law_own_name, k_law_own_name, b_law_own_name⟩ := H_law_own_name
  obtain ⟨f_law_wide, fd_law_wide, G_law_wide, m_law_wide, k_law_wide, b_law_wide⟩ := H_law_wide
  refine ⟨f, fd, ?_, hm, F.kp, hb⟩
  have nd := sc_law_wide.nd
  refine F.ok sc_law_wide (fun vs H Q E h => ?_) (fun cdv A outer s0 H vs Q E hr h => ?_)
  · obtain ⟨s, d, rfl, _⟩ := h
    rfl
  obtain ⟨s, d, rfl, hs, hd, hd7, q⟩ := h
  refine ⟨_, (pss_cons (ps_set (i := 2) nd rfl (Or.inl rfl) (pe_call G_law_own_name (hr.mono (by omega)) rfl m_law_own_name k_law_own_name b_law_own_name .nil pass0 (pa_cons (pv 0) pa_nil)))
      (pss_cons (ps_if (pt_cmpR op_eq (pv 1) pe_int (nomark _)) (pss_cons (ps_set (i := 3) nd rfl (Or.inl rfl) pe_int)
      (pss_cons (ps_for PassesOwn.never rfl (pi_range1 (by rfl) z_range (pa_cons (pe_op op_add pe_int (pe_call G_law_next (hr.mono (by omega)) rfl m_law_next k_law_next b_law_next .nil pass0 (pa_cons (pv 0) (pa_cons pe_int pa_nil)))) pa_nil)) (pg_name (i := 4) nd rfl (Or.inl rfl)) (pss_one (ps_set (i := 3) nd rfl (Or.inl rfl) (pe_op op_add (pe_op op_mul pe_int (pv 3)) (pe_call G_law_next (hr.mono (by omega)) rfl m_law_next k_law_next b_law_next .nil pass0 (pa_cons (pv 0) (pa_cons pe_int pa_nil)))))))
      (pss_cons (ps_set (i := 5) nd rfl (Or.inl rfl) (pe_lst (pa_cons (pe_tup (pa_cons pe_str (pa_cons (pv 2) pa_nil))) (pa_cons (pe_tup (pa_cons pe_str (pa_cons (pv 3) pa_nil))) (pa_cons (pe_tup (pa_cons pe_str (pa_cons (pe_op op_sub pe_int (pv 3)) pa_nil))) (pa_cons (pe_tup (pa_cons pe_str (pa_cons (pe_op op_sub (pe_op op_pow pe_int pe_int) (pv 3)) pa_nil))) (pa_cons (pe_tup (pa_cons pe_str (pa_cons (pe_op op_sub (pv 3) (pe_op op_pow pe_int pe_int)) pa_nil))) pa_nil)))))))
      (pss_one (ps_ret (pe_call G_law_one (hr.mono (by omega)) rfl m_law_one k_law_one b_law_one .nil pass0 (pa_cons (pv 0) (pa_cons (pv 5) pa_nil)))))))) pss_nil)
      (pss_cons (ps_par (i := 6) (j := 7) (by rfl) nd rfl rfl (by decide) rfl rfl (pa_cons (pe_call G_law_next (hr.mono (by omega)) rfl m_law_next k_law_next b_law_next .nil pass0 (pa_cons (pv 0) (pa_cons pe_int pa_nil))) (pa_cons (pe_call G_law_wide (hr.mono (by omega)) rfl m_law_wide k_law_wide b_law_wide .nil pass0 (pa_cons (pv 0) (pa_cons (pe_op op_sub (pv 1) pe_int) pa_nil))) pa_nil)) (by rfl))
      (pss_cons (ps_if (pt_cmpR op_eq (pv 6) pe_int (nomark _)) (pss_one (ps_ret (pe_tup (pa_cons pe_str (pa_cons (pe_op op_cat (pe_lst (pa_cons (pv 7) pa_nil)) (pe_lc (own := [("k", 4)]) (g := gName 4) (tt := tYes) rfl nd (pi_range1 (by rfl) z_range (pa_cons (pe_op op_add pe_int (pe_call G_law_next (hr.mono (by omega)) rfl m_law_next k_law_next b_law_next .nil pass0 (pa_cons (pv 0) (pa_cons pe_int pa_nil)))) pa_nil)) (blkOk_by (N := N_law_wide) (sc := defScope s_law_wide) (by decide +kernel)) (fun _ _ _ _ _ => (pg_name (i := 4) nd rfl (Or.inl rfl))) (fun _ _ _ _ _ => pts_nil) (fun _ _ _ _ _ => (pe_call G_law_wide (hr.mono (by omega)) rfl m_law_wide k_law_wide b_law_wide .nil pass0 (pa_cons (pv 0) (pa_cons (pe_op op_sub (pv 1) pe_int) pa_nil)))))) pa_nil))))) pss_nil)
      (pss_cons (ps_if (pt_cmpR op_eq (pv 6) pe_int (nomark _)) (pss_cons (ps_set (i := 8) nd rfl (Or.inl rfl) (pe_op op_add pe_int (pe_call G_law_next (hr.mono (by omega)) rfl m_law_next k_law_next b_law_next .nil pass0 (pa_cons (pv 0) (pa_cons pe_int pa_nil)))))
      (pss_one (ps_ret (pe_tup (pa_cons pe_str (pa_cons (pe_call G_law_next (hr.mono (by omega)) rfl m_law_next k_law_next b_law_next .nil pass0 (pa_cons (pv 0) (pa_cons (pv 8) pa_nil))) (pa_cons (pv 8) (pa_cons (pv 7) pa_nil)))))))) pss_nil)
      (pss_cons (ps_if (pt_cmpR op_lt (pv 6) pe_int (nomark _)) (pss_cons (ps_set (i := 9) nd rfl (Or.inl rfl) (pe_callB (cr_sortedTx rfl) (by rfl) z_sorted (by decide +kernel) (pa_cons (pe_callTy (cr_setTx rfl) (by rfl) z_set (by decide +kernel) (pa_cons (pe_lc (own := [("k", 4)]) (g := gName 4) (tt := tYes) rfl nd (pi_range1 (by rfl) z_range (pa_cons (pe_call G_law_next (hr.mono (by omega)) rfl m_law_next k_law_next b_law_next .nil pass0 (pa_cons (pv 0) (pa_cons pe_int pa_nil))) pa_nil)) (blkOk_by (N := N_law_wide) (sc := defScope s_law_wide) (by decide +kernel)) (fun _ _ _ _ _ => (pg_name (i := 4) nd rfl (Or.inl rfl))) (fun _ _ _ _ _ => pts_nil) (fun _ _ _ _ _ => (pe_call G_law_own_name (hr.mono (by omega)) rfl m_law_own_name k_law_own_name b_law_own_name .nil pass0 (pa_cons (pv 0) pa_nil)))) pa_nil)) pa_nil)))
      (pss_one (ps_ret (pe_tup (pa_cons pe_str (pa_cons (pe_lc (own := [("label", 10)]) (g := gName 10) (tt := tYes) rfl nd (pi_list (pv 9)) (blkOk_by (N := N_law_wide) (sc := defScope s_law_wide) (by decide +kernel)) (fun _ _ _ _ _ => (pg_name (i := 10) nd rfl (Or.inl rfl))) (fun _ _ _ _ _ => pts_nil) (fun _ _ _ _ _ => (pe_tup (pa_cons (pv 10) (pa_cons (pe_call G_law_wide (hr.mono (by omega)) rfl m_law_wide k_law_wide b_law_wide .nil pass0 (pa_cons (pv 0) (pa_cons (pe_op op_sub (pv 1) pe_int) pa_nil))) pa_nil))))) pa_nil)))))) pss_nil)
      (pss_cons (ps_if (pt_cmpR op_eq (pv 6) pe_int (nomark _)) (pss_one (ps_ret (pe_call G_law_one (hr.mono (by omega)) rfl m_law_one k_law_one b_law_one .nil pass0 (pa_cons (pv 0) (pa_cons (pe_lst (pa_cons (pe_tup (pa_cons pe_str (pa_cons (pv 7) (pa_cons (pv 2) pa_nil)))) (pa_cons (pe_tup (pa_cons pe_str (pa_cons (pv 7) (pa_cons (pv 2) (pa_cons (pv 7) pa_nil))))) (pa_cons (pe_tup (pa_cons pe_str (pa_cons (pv 7) (pa_cons (pe_tup (pa_cons pe_str (pa_cons (pv 2) (pa_cons (pv 7) pa_nil)))) pa_nil)))) pa_nil)))) pa_nil))))) pss_nil)
      (pss_one (ps_ret (pe_call G_law_one (hr.mono (by omega)) rfl m_law_one k_law_one b_law_one .nil pass0 (pa_cons (pv 0) (pa_cons (pe_lst (pa_cons (pe_tup (pa_cons pe_str (pa_cons (pv 2) (pa_cons (pv 7) (pa_cons (pv 7) pa_nil))))) (pa_cons (pe_tup (pa_cons pe_str (pa_cons (pv 2) (pa_cons (pe_tup (pa_cons pe_str (pa_cons (pv 2) (pa_cons (pv 7) pa_nil)))) (pa_cons (pv 7) pa_nil))))) (pa_cons (pe_tup (pa_cons pe_str (pa_cons (pv 7) (pa_cons (pv 7) (pa_cons (pv 7) pa_nil))))) pa_nil)))) pa_nil)))))))))))), ?_⟩
  walk_at "rd"
  intro own Ho hown ko co
  have okOwn := own_ok own hown
  walk_at "rd"
  refine ite2 (fun c => ?_) (fun c => ?_)
  · have d0 : d = 0 := by
      have := V.int.inj (of_decide_eq_true c)
      omega
    subst d0
    walk_at "rd"
    refine ⟨s, 30, rfl, co, by decide, by decide, fun i0 H0 i00 i01 k0 c0 => ?_⟩
    walk_at "rd"
    refine for_it walk_range (fun i σ X => ∃ (f : Int) (s4 : Option V), σ = [some (.ref s), some (.int 0), some (.str own), some (.int f), s4, none, none, none, none, none, none] ∧ Keep s H X ∧ Src X s ∧ 0 ≤ f ∧ f < 10 ^ i) ⟨0, none, rfl, ko.trans k0, c0, by decide, by decide⟩ (fun _ _ _ _ _ => trivial) ?_ ?_
    · rintro i x σ X X' hi ⟨f, s4, rfl, kx, cx, f0, f1⟩ hy
      obtain ⟨rfl, rfl⟩ := hy
      refine ⟨_, rfl, ?_⟩
      walk_at "rd"
      refine ⟨s, 10, rfl, cx, by decide, by decide, fun i1 H1 i10 i11 k1 c1 => ?_⟩
      walk_at "rd"
      refine ⟨10 * f + i1, _, rfl, kx.trans k1, c1, by omega, ?_⟩
      rw [Int.pow_succ]
      generalize (10 : Int) ^ i = m at *
      omega
    · rintro σ X ⟨f, s4, rfl, kx, cx, f0, f1⟩
      walk_at "rd"
      have e30 : (10 : Int) ^ Int.toNat 30 = 10 ^ 30 := rfl
      have hf : f < 10 ^ 30 := Int.lt_of_lt_of_le f1 (pow30 (by omega))
      intro p1 h1
      have S1 := same_new h1 (.tup [V.str "var", V.str own])
      have t1 : Tm K (nw H (upd X p1 (.tup [V.str "var", V.str own]))) (.ref p1) (.node (.var own) []) := .var (SqT.of (nw_at (kx.none cx h1)))
      have c1 := cx.new (o := .tup [V.str "var", V.str own]) h1
      have k1 := kx.same S1
      clear h1 S1
      generalize upd X p1 (.tup [V.str "var", V.str own]) = H1 at *
      walk_at "rd"
      intro p2 h2
      have S2 := same_new h2 (.tup [V.str "int", V.int f])
      have t2 : Tm K (nw H (upd H1 p2 (.tup [V.str "int", V.int f]))) (.ref p2) (.node (.int f) []) := .int (SqT.of (nw_at (k1.none c1 h2)))
      have t1 := t1.same (nw_same (H := H) S2)
      have c2 := c1.new (o := .tup [V.str "int", V.int f]) h2
      have k2 := k1.same S2
      clear h2 S2
      generalize upd H1 p2 (.tup [V.str "int", V.int f]) = H2 at *
      walk_at "rd"
      intro p3 h3
      have S3 := same_new h3 (.tup [V.str "int", V.int (0 - f)])
      have t3 : Tm K (nw H (upd H2 p3 (.tup [V.str "int", V.int (0 - f)]))) (.ref p3) (.node (.int (0 - f)) []) := .int (SqT.of (nw_at (k2.none c2 h3)))
      have t1 := t1.same (nw_same (H := H) S3)
      have t2 := t2.same (nw_same (H := H) S3)
      have c3 := c2.new (o := .tup [V.str "int", V.int (0 - f)]) h3
      have k3 := k2.same S3
      clear h3 S3
      generalize upd H2 p3 (.tup [V.str "int", V.int (0 - f)]) = H3 at *
      walk_at "rd"
      intro p4 h4
      have S4 := same_new h4 (.tup [V.str "int", V.int ((10 : Int) ^ Int.toNat 30 - f)])
      have t4 : Tm K (nw H (upd H3 p4 (.tup [V.str "int", V.int ((10 : Int) ^ Int.toNat 30 - f)]))) (.ref p4) (.node (.int ((10 : Int) ^ Int.toNat 30 - f)) []) := .int (SqT.of (nw_at (k3.none c3 h4)))
      have t1 := t1.same (nw_same (H := H) S4)
      have t2 := t2.same (nw_same (H := H) S4)
      have t3 := t3.same (nw_same (H := H) S4)
      have c4 := c3.new (o := .tup [V.str "int", V.int ((10 : Int) ^ Int.toNat 30 - f)]) h4
      have k4 := k3.same S4
      clear h4 S4
      generalize upd H3 p4 (.tup [V.str "int", V.int ((10 : Int) ^ Int.toNat 30 - f)]) = H4 at *
      walk_at "rd"
      intro p5 h5
      have S5 := same_new h5 (.tup [V.str "int", V.int (f - (10 : Int) ^ Int.toNat 30)])
      have t5 : Tm K (nw H (upd H4 p5 (.tup [V.str "int", V.int (f - (10 : Int) ^ Int.toNat 30)]))) (.ref p5) (.node (.int (f - (10 : Int) ^ Int.toNat 30)) []) := .int (SqT.of (nw_at (k4.none c4 h5)))
      have t1 := t1.same (nw_same (H := H) S5)
      have t2 := t2.same (nw_same (H := H) S5)
      have t3 := t3.same (nw_same (H := H) S5)
      have t4 := t4.same (nw_same (H := H) S5)
      have c5 := c4.new (o := .tup [V.str "int", V.int (f - (10 : Int) ^ Int.toNat 30)]) h5
      have k5 := k4.same S5
      clear h5 S5
      generalize upd H4 p5 (.tup [V.str "int", V.int (f - (10 : Int) ^ Int.toNat 30)]) = H5 at *
      walk_at "rd"
      intro p6 h6
      have S6 := same_new h6 (.lst [V.ref p1, V.ref p2, V.ref p3, V.ref p4, V.ref p5])
      have c6 := c5.new (o := .lst [V.ref p1, V.ref p2, V.ref p3, V.ref p4, V.ref p5]) h6
      have k6 := k5.same S6
      have hall : ∀ v ∈ [V.ref p1, V.ref p2, V.ref p3, V.ref p4, V.ref p5], ∃ t, Tm K (nw H (upd H5 p6 (.lst [V.ref p1, V.ref p2, V.ref p3, V.ref p4, V.ref p5]))) v t ∧ Broad 0 t := fun v hv => by
        have sm := nw_same (H := H) S6
        simp only [List.mem_cons, List.not_mem_nil, or_false] at hv
        rcases hv with rfl | rfl | rfl | rfl | rfl
        · exact ⟨_, t1.same sm, broad0 ⟨rfl, okOwn⟩ trivial⟩
        · exact ⟨_, t2.same sm, broad0 ⟨rfl, by omega, by omega⟩ trivial⟩
        · exact ⟨_, t3.same sm, broad0 ⟨rfl, by omega, by omega⟩ trivial⟩
        · exact ⟨_, t4.same sm, broad0 ⟨rfl, by omega, by omega⟩ trivial⟩
        · exact ⟨_, t5.same sm, broad0 ⟨rfl, by omega, by omega⟩ trivial⟩
      clear h6 t1 t2 t3 t4 t5 c5 S6
      walk_at "rd"
      refine ⟨s, p6, _, rfl, c6, SqL.of upd_same, No3.of_ref fun v hv i e => ?_, by simp, by simp, fun v H7 hv k7 c7 => ?_⟩
      · obtain ⟨t, m, _⟩ := hall v hv
        exact m.ne_int i e
      · obtain ⟨t, m, b⟩ := hall v hv
        exact q v H7 t (k6.trans k7) c7 (m.same (nw_keep k7 hs)) b
  obtain ⟨e, rfl⟩ : ∃ e, d = e + 1 := ⟨d - 1, by
    have : d ≠ 0 := fun z => c (by rw [z]; rfl)
    omega⟩
  walk_at "rd"
  refine ⟨s, 6, rfl, co, by decide, by decide, fun i0 H0 i00 i01 k0 c0 => ?_⟩
  have kA := ko.trans k0
  clear ko k0 co
  walk_at "rd"
  refine ⟨s, e, congrArg (fun z => [V.ref s, V.int z]) (by omega), c0, by omega, by omega, fun v H1 t k1 c1 tm dr => ?_⟩
  have pe := wsz_pos e
  obtain ⟨r1, r2, r3⟩ := dr
  have tm := tm.same (nw_in kA c0)
  have kB := kA.trans k1
  clear kA k1 c0
  refine ⟨.int i0, v, rfl, ?_⟩
  walk_at "rd"
  have no3v : No3 [v] := No3.of_ref fun u hu i z => by
    rw [List.mem_singleton.mp hu] at z
    exact tm.ne_int i z
  refine ite2 (fun w0 => ?_) (fun w0 => ?_)
  · walk_at "rd"
    intro p1 h1
    have S1 := same_new h1 (.lst [v])
    have l1 := @upd_same H1 p1 (.lst [v])
    have kC := kB.same S1
    have cC := c1.same S1
    have tC := tm.same (nw_same (H := H) S1)
    clear h1 S1
    generalize upd H1 p1 (.lst [v]) = H2 at *
    walk_at "rd"
    refine ⟨s, 5, rfl, cC, by decide, by decide, fun i1 H3 i10 i11 k3 c3 => ?_⟩
    walk_at "rd"
    intro D hD
    have kA := kC.trans k3
    have nD : H D = none := kA.none c3 hD
    refine lc_range (lo := 0) (n := (1 + i1).toNat) (fun i X => ∃ (G : Hp) (us : List V) (ts : List T), Same G X ∧ G D = none ∧ Keep s H3 G ∧ Src G s ∧ X D = some (.lst us) ∧ us.length = i ∧ ts.length = i ∧
        (∀ (j : Nat) (u : V) (t : T), us[j]? = some u → ts[j]? = some t → Tm K (nw H G) u t) ∧ ∀ t ∈ ts, Broad e t)
      ⟨H3, [], [], same_new hD _, hD, Keep.refl _ _, c3, upd_same, rfl, rfl, fun _ _ _ h => by simp at h, fun t h => by cases h⟩ ?_ ?_
    · rintro i X hi ⟨G, us, ts, g1, g2, g3, g4, g5, e2, e3, f2, f3⟩
      walk_at "rd"
      refine ⟨s, e, congrArg (fun z => [V.ref s, V.int z]) (by omega), g4.same g1, by omega, by omega, fun v X' t kx hsx tm dr => ?_⟩
      obtain ⟨a1, a2, a3, a4⟩ := grow0 (L := .lst (us ++ [v])) g1 g2 g4 kx hsx
      have b1 : Same (nw H G) (nw H (off D X')) := nw_keep a3 hs
      have hD' : X' D = some (.lst us) := kx.list (g4.same g1) (No3.of_ref fun v hv j z => by
        obtain ⟨c, hc, q⟩ := List.getElem_of_mem hv
        exact (f2 c v (ts[c]'(by omega)) (by rw [List.getElem?_eq_getElem hc, q]) (List.getElem?_eq_getElem (by omega))).ne_int j z) g5
      refine ⟨us, hD', small1000 (by omega), off D X', us ++ [v], ts ++ [t], a1, a2, g3.trans a3, a4, upd_same, by simp [e2], by simp [e3], ?_, ?_⟩
      · intro j u t' h1 h2
        by_cases q : j < i
        · rw [List.getElem?_append_left (by omega)] at h1 h2
          exact (f2 j u t' h1 h2).same b1
        · have hj : j = i := by
            have := (List.getElem?_eq_some_iff.mp h1).1
            simp at this
            omega
          subst hj
          rw [List.getElem?_append_right (by omega)] at h1 h2
          simp [e2, e3] at h1 h2
          rw [← h1, ← h2]
          refine tm.same (fun c o hc => ?_)
          obtain ⟨x1, x2⟩ := nw_get hc
          have x3 : H c = none := ((kA.trans g3).same g1).none (g4.same g1) x1
          rw [nw_of x3, off_ne (fun z => by rw [z, g5] at x1; cases x1)]
          exact x2
      · intro t' ht
        rcases List.mem_append.mp ht with ht | ht
        · exact f3 t' ht
        · rw [List.mem_singleton.mp ht]
          exact dr
    · rintro X ⟨G, us, ts, g1, g2, g3, g4, g5, e2, e3, f2, f3⟩
      have kE := (kA.trans g3).same g1
      have hsE := g4.same g1
      have l3 := g1 _ _ (g3.list c3 no3v (k3.list cC no3v l1))
      have t3 := (tC.same (nw_keep (k3.trans g3) hs)).same (nw_same g1)
      walk_at "rd"
      refine ⟨p1, D, [v], us, rfl, rfl, l3, g5, sz (by simp; omega), fun p4 h4 => ?_⟩
      have S4 := same_new h4 (.lst ([v] ++ us))
      have l4 : nw H (upd X p4 (.lst ([v] ++ us))) p4 = some (.lst ([v] ++ us)) := nw_at (kE.none hsE h4)
      have kF := kE.same S4
      have hsF := hsE.same S4
      have b4 := nw_same (H := H) S4
      clear h4 S4
      generalize upd X p4 (.lst ([v] ++ us)) = X4 at *
      walk_at "rd"
      intro p6 hp6
      have S6 := same_new hp6 (.tup [V.str "tuple", V.ref p4])
      have b6 := nw_same (H := H) S6
      have z6 : (T.node .tup (t :: ts)).size ≤ 1 + 6 * wsz e := node_size (by simp; omega) fun u hu => by
        rcases List.mem_cons.mp hu with rfl | hu
        · exact r2
        · exact (f3 u hu).2.1
      have d6 : (T.node .tup (t :: ts)).deep ≤ 1 + (2 * e + 1) := node_deep fun u hu => by
        rcases List.mem_cons.mp hu with rfl | hu
        · exact r3
        · exact (f3 u hu).2.2
      refine q _ _ (.node .tup (t :: ts)) (kF.same S6) (hsF.same S6) (.tup (SqT.of (nw_at (kF.none hsF hp6))) (SqL.of (b6 _ _ l4)) (by simp; omega) (fun j u t' h1 h2 => ?_))
        ⟨.mk ⟨by simp; omega, by simp; omega⟩ trivial fun u hu => ?_, by simp only [wsz]; omega, by omega⟩
      · refine Tm.same b6 (Tm.same b4 ?_)
        cases j with
        | zero => cases h1; cases h2; exact t3
        | succ j => exact (f2 j u t' h1 h2).same (nw_same g1)
      · rcases List.mem_cons.mp hu with rfl | hu
        · exact r1
        · exact (f3 u hu).1
  walk_at "rd"
  refine ite2 (fun w1 => ?_) (fun w1 => ?_)
  · walk_at "rd"
    refine ⟨s, 5, rfl, c1, by decide, by decide, fun i1 H2 i10 i11 k2 c2 => ?_⟩
    walk_at "rd"
    refine ⟨s, _, rfl, c2, by omega, by omega, fun i2 H3 i20 i21 k3 c3 => ?_⟩
    walk_at "rd"
    intro p4 hp4
    have S4 := same_new hp4 (.tup [V.str "part", V.int i2, V.int (2 + i1), v])
    have kC := (kB.trans k2).trans k3
    exact q _ _ (.node (.part i2 (2 + i1)) [t]) (kC.same S4) (c3.same S4) (.part (SqT.of (nw_at (kC.none c3 hp4))) ((tm.same (nw_keep (k2.trans k3) hs)).same (nw_same S4)))
      ⟨.mk ⟨rfl, i20, i21, by omega, by omega⟩ trivial fun t ht => (by rw [List.mem_singleton.mp ht]; exact r1), by simp only [T.size, T.sizes, wsz]; omega, by simp only [T.deep, T.deeps]; omega⟩
  walk_at "rd"
  refine ite2 (fun w2 => ?_) (fun w2 => ?_)
  · walk_at "rd"
    refine ⟨s, 30, rfl, c1, by decide, by decide, fun i1 H2 i10 i11 k2 c2 => ?_⟩
    walk_at "rd"
    intro D1 hD1
    have kC := kB.trans k2
    have nD1 : H D1 = none := kC.none c2 hD1
    refine lc_range (lo := 0) (n := i1.toNat) (fun i X => ∃ (ns : List Str), Keep s H X ∧ Src X s ∧ X D1 = some (.lst (ns.map V.str)) ∧ ns.length = i ∧ ∀ n ∈ ns, n ∈ ownN)
      ⟨[], kC.same (same_new hD1 _), c2.same (same_new hD1 _), upd_same, rfl, fun n h => by cases h⟩ ?_ ?_
    · rintro i X hi ⟨ns, g1, g2, g3, e1, f1⟩
      walk_at "rd"
      intro x X' hx kx cx
      exact ⟨ns.map V.str, kx.list g2 (no3_strs ns) g3, small1000 (by rw [List.length_map]; omega), ns ++ [x], (g1.trans kx).mut nD1, cx.wr (hs.ne nD1), by rw [upd_same, List.map_append]; rfl, by simp [e1], fun n m => by
        rcases List.mem_append.mp m with m | m
        · exact f1 n m
        · rw [List.mem_singleton.mp m]; exact hx⟩
    · rintro X ⟨ns, g1, g2, g3, e1, f1⟩
      walk_at "rd"
      refine ⟨D1, ns, rfl, SqL.of g3, by omega, fun p2 h2 => ?_⟩
      have S2 := same_new h2 (SetX P w p2 ns ns.length)
      have g1 := g1.same S2
      have g2 := g2.same S2
      clear S2 h2
      walk_at "rd"
      refine ⟨p2, ns, ns.length, rfl, upd_same, by omega, fun ls p3 y1 y2 y3 hp3 => ?_⟩
      have lok : ∀ n ∈ ls, isNm n := fun n m => own_ok n (f1 n ((y3 n).mp m))
      have lpw := sorted_lt y1 y2
      have n12 : ls.length ≤ 12 := nodup_le (ys := ownN) y2 fun n m => f1 n ((y3 n).mp m)
      have S3 : Same (upd X p2 (SetX P w p2 ns ns.length)) (upd (upd X p2 (SetX P w p2 ns ns.length)) p3 (.lst (ls.map V.str))) := same_new hp3 (.lst (ls.map V.str))
      have kb := g1.same S3
      have hsb := g2.same S3
      have h1b := @upd_same (upd X p2 (SetX P w p2 ns ns.length)) p3 (.lst (ls.map V.str))
      clear hp3 g1 g2 g3 y1 y2 y3 f1
      change gName 9 (V.ref p3) _ (upd (upd X p2 (SetX P w p2 ns ns.length)) p3 (.lst (ls.map V.str))) _
      clear S3
      generalize upd (upd X p2 (SetX P w p2 ns ns.length)) p3 (.lst (ls.map V.str)) = Hb at *
      walk_at "rd"
      refine ⟨⟨_, SqL.of h1b⟩, fun D hD => ?_⟩
      have nD : H D = none := kb.none hsb hD
      refine lc_list (K := K) (a := p3) (xs := ls.map V.str) (fun i X => ∃ (G : Hp) (bs : List Addr) (us : List V) (ts : List T), Same G X ∧ G D = none ∧ Keep s Hb G ∧ Src G s ∧ X D = some (.lst (bs.map V.ref)) ∧ bs.length = i ∧ us.length = i ∧ ts.length = i ∧
          (∀ (j : Nat) (b : Addr) (n : Str) (u : V), bs[j]? = some b → ls[j]? = some n → us[j]? = some u → SqT K (nw H G) b [.str n, u]) ∧ (∀ (j : Nat) (u : V) (t : T), us[j]? = some u → ts[j]? = some t → Tm K (nw H G) u t) ∧ ∀ t ∈ ts, Broad e t)
        ⟨Hb, [], [], [], same_new hD _, hD, Keep.refl _ _, hsb, upd_same, rfl, rfl, rfl, fun _ _ _ _ h => by simp at h, fun _ _ _ h => by simp at h, fun t h => by cases h⟩
        (fun i X hi ⟨G, bs, us, ts, g1, _, g3, _⟩ => SqL.of (g1 _ _ (g3.list hsb (no3_strs ls) h1b))) ?_ ?_
      · rintro i x X hx ⟨G, bs, us, ts, g1, g2, g3, g4, g5, e1, e2, e3, f1, f2, f3⟩
        obtain ⟨n, hn1, hn2, rfl⟩ := get_map hx
        have hi := (List.getElem?_eq_some_iff.mp hn2).1
        walk_at "rd"
        refine ⟨s, e, congrArg (fun z => [V.ref s, V.int z]) (by omega), g4.same g1, by omega, by omega, fun v X' t kx hsx tm dr => ?_⟩
        walk_at "rd"
        intro p hp
        have hD' : X' D = some (.lst (bs.map V.ref)) := kx.list (g4.same g1) (No3.of_ref fun v hv j e => by obtain ⟨b, _, q⟩ := List.mem_map.mp hv; rw [e] at q; cases q) g5
        obtain ⟨a1, a2, a3, a4⟩ := grow (o := .tup [V.str n, v]) (L := .lst (bs.map V.ref ++ [V.ref p])) g1 g2 g4 kx hsx hD' hp
        have kH : Keep s H X' := ((kb.trans g3).same g1).trans kx
        have np : H p = none := kH.none hsx hp
        have b1 : Same (nw H G) (nw H (upd (off D X') p (.tup [V.str n, v]))) := nw_keep a3 hs
        refine ⟨bs.map V.ref, (upd_ne (ne_of_none hD' hp)).trans hD', by rw [List.length_map]; exact small1000 (by omega), upd (off D X') p (.tup [V.str n, v]), bs ++ [p], us ++ [v], ts ++ [t], a1, a2, g3.trans a3, a4, by rw [upd_same, List.map_append]; rfl, by simp [e1], by simp [e2], by simp [e3], ?_, ?_, ?_⟩
        · intro j b m u h1 h2 h3
          by_cases q : j < i
          · rw [List.getElem?_append_left (by omega)] at h1 h3
            exact b1.tupS (f1 j b m u h1 h2 h3)
          · have hj : j = i := by
              have := (List.getElem?_eq_some_iff.mp h1).1
              simp at this
              omega
            subst hj
            rw [List.getElem?_append_right (by omega)] at h1 h3
            simp [e1, e2] at h1 h3
            rw [hn2] at h2
            cases h2
            rw [← h1, ← h3]
            exact SqT.of (nw_at np)
        · intro j u t' h1 h2
          by_cases q : j < i
          · rw [List.getElem?_append_left (by omega)] at h1 h2
            exact (f2 j u t' h1 h2).same b1
          · have hj : j = i := by
              have := (List.getElem?_eq_some_iff.mp h1).1
              simp at this
              omega
            subst hj
            rw [List.getElem?_append_right (by omega)] at h1 h2
            simp [e2, e3] at h1 h2
            rw [← h1, ← h2]
            refine tm.same (fun c o hc => ?_)
            obtain ⟨x1, x2⟩ := nw_get hc
            have x3 : H c = none := ((kb.trans g3).same g1).none (g4.same g1) x1
            rw [nw_of x3, upd_ne (ne_of_none x2 hp), off_ne (fun z => by rw [z, g5] at x1; cases x1)]
            exact x2
        · intro t' ht
          rcases List.mem_append.mp ht with ht | ht
          · exact f3 t' ht
          · rw [List.mem_singleton.mp ht]
            exact dr
      · rintro X ⟨G, bs, us, ts, g1, g2, g3, g4, g5, e1, e2, e3, f1, f2, f3⟩
        rw [List.length_map] at e1 e2 e3
        have kX : Keep s H X := (kb.trans g3).same g1
        have hsX := g4.same g1
        walk_at "rd"
        intro p2 hp2
        have c := nw_same (H := H) (same_new hp2 (.tup [V.str "record", V.ref D]))
        have zR : (T.node (.record ls) ts).size ≤ 1 + 12 * wsz e := node_size (by omega) fun t ht => (f3 t ht).2.1
        have dR : (T.node (.record ls) ts).deep ≤ 1 + (2 * e + 1) := node_deep fun t ht => (f3 t ht).2.2
        exact q _ _ (.node (.record ls) ts) (kX.trans (Keep.new hp2)) (hsX.new hp2) (.record (SqT.of (nw_at (kX.none hsX hp2))) (SqL.of (c _ _ ((nw_of nD).trans g5))) (by omega) (by omega) (by omega) (fun j b n u a1 a2 a3 => c.tupS ((nw_same g1).tupS (f1 j b n u a1 a2 a3))) (fun j u t a1 a2 => ((f2 j u t a1 a2).same (nw_same g1)).same c))
          ⟨.mk ⟨by omega, by omega, lok, lpw⟩ trivial fun t ht => (f3 t ht).1, by simp only [wsz]; omega, by omega⟩
  walk_at "rd"
  refine ite2 (fun w3 => ?_) (fun w3 => ?_)
  · walk_at "rd"
    intro pa ha
    have Sa := same_new ha (.tup [V.str "field", v, V.str own])
    have tm := tm.same (nw_same (H := H) Sa)
    have ta : Tm K (nw H (upd H1 pa (.tup [V.str "field", v, V.str own]))) (.ref pa) (.node (.field own) [t]) := .field (SqT.of (nw_at (kB.none c1 ha))) tm
    have ka := kB.same Sa
    have ca := c1.same Sa
    clear ha Sa
    generalize upd H1 pa (.tup [V.str "field", v, V.str own]) = Xa at *
    walk_at "rd"
    intro pb hb
    have Sb := same_new hb (.tup [V.str "with", v, V.str own, v])
    have tm := tm.same (nw_same (H := H) Sb)
    have ta := ta.same (nw_same (H := H) Sb)
    have tb : Tm K (nw H (upd Xa pb (.tup [V.str "with", v, V.str own, v]))) (.ref pb) (.node (.wth own) [t, t]) := .wth (SqT.of (nw_at (ka.none ca hb))) tm tm
    have kb := ka.same Sb
    have cb := ca.same Sb
    clear hb Sb
    generalize upd Xa pb (.tup [V.str "with", v, V.str own, v]) = Xb at *
    walk_at "rd"
    intro pd hd
    have Sd := same_new hd (.tup [V.str "fun", V.str own, v])
    have tm := tm.same (nw_same (H := H) Sd)
    have ta := ta.same (nw_same (H := H) Sd)
    have tb := tb.same (nw_same (H := H) Sd)
    have td : Tm K (nw H (upd Xb pd (.tup [V.str "fun", V.str own, v]))) (.ref pd) (.node (.fn own) [t]) := .fn (SqT.of (nw_at (kb.none cb hd))) tm
    have kd := kb.same Sd
    have cd := cb.same Sd
    clear hd Sd
    generalize upd Xb pd (.tup [V.str "fun", V.str own, v]) = Xd at *
    walk_at "rd"
    intro pf hf
    have Sf := same_new hf (.tup [V.str "app", v, V.ref pd])
    have tm := tm.same (nw_same (H := H) Sf)
    have ta := ta.same (nw_same (H := H) Sf)
    have tb := tb.same (nw_same (H := H) Sf)
    have td := td.same (nw_same (H := H) Sf)
    have tf : Tm K (nw H (upd Xd pf (.tup [V.str "app", v, V.ref pd]))) (.ref pf) (.node .app [t, .node (.fn own) [t]]) := .app (SqT.of (nw_at (kd.none cd hf))) tm td
    have kf := kd.same Sf
    have cf := cd.same Sf
    clear hf Sf
    generalize upd Xd pf (.tup [V.str "app", v, V.ref pd]) = Xf at *
    walk_at "rd"
    intro pg hg
    have Sg := same_new hg (.lst [V.ref pa, V.ref pb, V.ref pf])
    have lg := @upd_same Xf pg (.lst [V.ref pa, V.ref pb, V.ref pf])
    have tm := tm.same (nw_same (H := H) Sg)
    have ta := ta.same (nw_same (H := H) Sg)
    have tb := tb.same (nw_same (H := H) Sg)
    have td := td.same (nw_same (H := H) Sg)
    have tf := tf.same (nw_same (H := H) Sg)
    have kg := kf.same Sg
    have cg := cf.same Sg
    clear hg Sg
    generalize upd Xf pg (.lst [V.ref pa, V.ref pb, V.ref pf]) = Xg at *
    walk_at "rd"
    have hall : ∀ u ∈ [V.ref pa, V.ref pb, V.ref pf], ∃ t, Tm K (nw H Xg) u t ∧ Broad (e + 1) t := fun u hu => by
      simp only [List.mem_cons, List.not_mem_nil, or_false] at hu
      rcases hu with rfl | rfl | rfl
      · exact ⟨_, ta, ⟨.mk ⟨rfl, okOwn⟩ trivial (fun u hu => (by rw [List.mem_singleton.mp hu]; exact r1)), by simp only [T.size, T.sizes, wsz]; omega, by simp only [T.deep, T.deeps]; omega⟩⟩
      · exact ⟨_, tb, ⟨.mk ⟨rfl, okOwn⟩ trivial (fun u hu => (by simp at hu; rw [hu]; exact r1)), by simp only [T.size, T.sizes, wsz]; omega, by simp only [T.deep, T.deeps]; omega⟩⟩
      · exact ⟨_, tf, ⟨.mk rfl trivial (fun u hu => by simp at hu; rcases hu with rfl | rfl; exact r1; exact .mk ⟨rfl, okOwn⟩ trivial (fun u hu => (by rw [List.mem_singleton.mp hu]; exact r1))), by simp only [T.size, T.sizes, wsz]; omega, by simp only [T.deep, T.deeps]; omega⟩⟩
    refine ⟨s, pg, _, rfl, cg, SqL.of lg, No3.of_ref fun u hu i z => ?_, by simp, by simp, fun u H7 hu k7 c7 => ?_⟩
    · obtain ⟨t, m, _⟩ := hall u hu
      exact m.ne_int i z
    · obtain ⟨t, m, b⟩ := hall u hu
      exact q u H7 t (kg.trans k7) c7 (m.same (nw_keep k7 hs)) b
  · walk_at "rd"
    intro pa ha
    have Sa := same_new ha (.tup [V.str "let", V.str own, v, v])
    have tm := tm.same (nw_same (H := H) Sa)
    have ta : Tm K (nw H (upd H1 pa (.tup [V.str "let", V.str own, v, v]))) (.ref pa) (.node (.lt own) [t, t]) := .lt (SqT.of (nw_at (kB.none c1 ha))) tm tm
    have ka := kB.same Sa
    have ca := c1.same Sa
    clear ha Sa
    generalize upd H1 pa (.tup [V.str "let", V.str own, v, v]) = Xa at *
    walk_at "rd"
    intro pd hd
    have Sd := same_new hd (.tup [V.str "fun", V.str own, v])
    have tm := tm.same (nw_same (H := H) Sd)
    have ta := ta.same (nw_same (H := H) Sd)
    have td : Tm K (nw H (upd Xa pd (.tup [V.str "fun", V.str own, v]))) (.ref pd) (.node (.fn own) [t]) := .fn (SqT.of (nw_at (ka.none ca hd))) tm
    have kd := ka.same Sd
    have cd := ca.same Sd
    clear hd Sd
    generalize upd Xa pd (.tup [V.str "fun", V.str own, v]) = Xd at *
    walk_at "rd"
    intro pb hb
    have Sb := same_new hb (.tup [V.str "rec", V.str own, V.ref pd, v])
    have tm := tm.same (nw_same (H := H) Sb)
    have ta := ta.same (nw_same (H := H) Sb)
    have td := td.same (nw_same (H := H) Sb)
    have tb : Tm K (nw H (upd Xd pb (.tup [V.str "rec", V.str own, V.ref pd, v]))) (.ref pb) (.node (.rc own) [.node (.fn own) [t], t]) := .rc (SqT.of (nw_at (kd.none cd hb))) td tm
    have kb := kd.same Sb
    have cb := cd.same Sb
    clear hb Sb
    generalize upd Xd pb (.tup [V.str "rec", V.str own, V.ref pd, v]) = Xb at *
    walk_at "rd"
    intro pf hf
    have Sf := same_new hf (.tup [V.str "if", v, v, v])
    have tm := tm.same (nw_same (H := H) Sf)
    have ta := ta.same (nw_same (H := H) Sf)
    have td := td.same (nw_same (H := H) Sf)
    have tb := tb.same (nw_same (H := H) Sf)
    have tf : Tm K (nw H (upd Xb pf (.tup [V.str "if", v, v, v]))) (.ref pf) (.node .cond [t, t, t]) := .cond (SqT.of (nw_at (kb.none cb hf))) tm tm tm
    have kf := kb.same Sf
    have cf := cb.same Sf
    clear hf Sf
    generalize upd Xb pf (.tup [V.str "if", v, v, v]) = Xf at *
    walk_at "rd"
    intro pg hg
    have Sg := same_new hg (.lst [V.ref pa, V.ref pb, V.ref pf])
    have lg := @upd_same Xf pg (.lst [V.ref pa, V.ref pb, V.ref pf])
    have tm := tm.same (nw_same (H := H) Sg)
    have ta := ta.same (nw_same (H := H) Sg)
    have td := td.same (nw_same (H := H) Sg)
    have tb := tb.same (nw_same (H := H) Sg)
    have tf := tf.same (nw_same (H := H) Sg)
    have kg := kf.same Sg
    have cg := cf.same Sg
    clear hg Sg
    generalize upd Xf pg (.lst [V.ref pa, V.ref pb, V.ref pf]) = Xg at *
    walk_at "rd"
    have hall : ∀ u ∈ [V.ref pa, V.ref pb, V.ref pf], ∃ t, Tm K (nw H Xg) u t ∧ Broad (e + 1) t := fun u hu => by
      simp only [List.mem_cons, List.not_mem_nil, or_false] at hu
      rcases hu with rfl | rfl | rfl
      · exact ⟨_, ta, ⟨.mk ⟨rfl, okOwn⟩ trivial (fun u hu => (by simp at hu; rw [hu]; exact r1)), by simp only [T.size, T.sizes, wsz]; omega, by simp only [T.deep, T.deeps]; omega⟩⟩
      · exact ⟨_, tb, ⟨.mk ⟨rfl, okOwn⟩ trivial (fun u hu => by simp at hu; rcases hu with rfl | rfl; exact .mk ⟨rfl, okOwn⟩ trivial (fun u hu => (by rw [List.mem_singleton.mp hu]; exact r1)); exact r1), by simp only [T.size, T.sizes, wsz]; omega, by simp only [T.deep, T.deeps]; omega⟩⟩
      · exact ⟨_, tf, ⟨.mk rfl trivial (fun u hu => (by simp at hu; rw [hu]; exact r1)), by simp only [T.size, T.sizes, wsz]; omega, by simp only [T.deep, T.deeps]; omega⟩⟩
    refine ⟨s, pg, _, rfl, cg, SqL.of lg, No3.of_ref fun u hu i z => ?_, by simp, by simp, fun u H7 hu k7 c7 => ?_⟩
    · obtain ⟨t, m, _⟩ := hall u hu
      exact m.ne_int i z
    · obtain ⟨t, m, b⟩ := hall u hu
      exact q u H7 t (kg.trans k7) c7 (m.same (nw_keep k7 hs)) b
end
end Vt


set_option Elab.async false
set_option linter.all false
set_option maxRecDepth 100000
set_option maxHeartbeats 4000000

namespace Vt
open PySem PySem.Spec PyProof.Rows L2 TL
/-! ### the law's own words of a term -/
theorem call_str_bl {X : Cx} : CallR X (.type "str") (fun xs H Q => ∃ b, xs = [.bl b] ∧ Q (.str (if b then "True" else "False")) H) := by
  intro pins s σ H xs us Q I r h
  obtain ⟨b, rfl, q⟩ := h
  obtain ⟨u, rfl, r1⟩ := vals1 r
  cases r1
  exact PySem.P.str_of_bool ⟨.str _, H, I.tok _, ⟨_, rfl⟩, q⟩
theorem cut_one (xs : List V) : cutV xs (some 1) none = xs.drop 1 := by
  unfold cutV
  cases xs with
  | nil => rfl
  | cons x r =>
    have h1 : HT.sIx (x :: r).length 0 (some 1) = 1 := by
      show min 1 _ = 1
      rw [List.length_cons]
      omega
    have h2 : HT.sIx (x :: r).length (x :: r).length none = (x :: r).length := rfl
    rw [h1, h2, List.take_of_length_le (by rw [List.length_drop]; exact Nat.le_refl _)]
/-- rows of words with a comma ahead of each -/
def cw : List (List Str) → List Str
  | [] => []
  | a :: r => "," :: (a ++ cw r)
theorem cw_app : ∀ (l : List (List Str)) (a : List Str), cw (l ++ [a]) = cw l ++ ("," : Str) :: a
  | [], a => by simp [cw]
  | b :: r, a => by simp only [List.cons_append, cw, cw_app r a, List.append_assoc]
theorem cw_sepd : ∀ l : List (List Wd), (cw (l.map (·.map (·.2)))).drop 1 = (sepd l).map (·.2)
  | [] => rfl
  | [a] => by simp [cw, sepd]
  | a :: b :: r => by
    have ih := cw_sepd (b :: r)
    simp only [List.map_cons, cw, List.drop_succ_cons, List.drop_zero] at ih ⊢
    simp only [sepd, List.map_append, List.map_cons, wd, ih]
theorem tokss_wds : ∀ ks : List T, (T.tokss ks).map (·.map (·.2)) = ks.map T.wds
  | [] => rfl
  | t :: r => by simp only [T.tokss, List.map_cons, tokss_wds r]; rfl
def fw : List Str → List T → List (List Str)
  | n :: ns, t :: r => (n :: "=" :: t.wds) :: fw ns r
  | _, _ => []
theorem flds_map : ∀ (ls : List Str) (ks : List T), (flds ls (T.tokss ks)).map (·.map (·.2)) = fw ls ks
  | [], [] => rfl
  | [], _ :: _ => rfl
  | _ :: _, [] => rfl
  | n :: ls, t :: r => by simp only [T.tokss, flds, fw, List.map_cons, flds_map ls r]; rfl
theorem fw_snoc : ∀ (ls : List Str) (ks : List T) (n : Str) (t : T), ls.length = ks.length → fw (ls ++ [n]) (ks ++ [t]) = fw ls ks ++ [n :: ("=" : Str) :: t.wds]
  | [], [], n, t, _ => rfl
  | m :: ls, u :: ks, n, t, h => by simp only [List.cons_append, fw, fw_snoc ls ks n t (by simpa using h)]
  | [], _ :: _, _, _, h => by simp at h
  | _ :: _, [], _, _, h => by simp at h
theorem cw_len : ∀ l : List (List Str), (∀ a ∈ l, a.length ≤ 3700) → (cw l).length ≤ l.length * 3701
  | [], _ => by simp [cw]
  | a :: r, h => by
    have h1 := h a List.mem_cons_self
    have h2 := cw_len r fun b m => h b (List.mem_cons_of_mem _ m)
    simp only [cw, List.length_cons, List.length_append, Nat.succ_mul]
    omega
theorem fw_mem {a : List Str} : ∀ {ls : List Str} {ks : List T}, a ∈ fw ls ks → ∃ n, ∃ t ∈ ks, a = n :: ("=" : Str) :: t.wds
  | n :: ls, t :: r, m => by
    simp only [fw, List.mem_cons] at m
    rcases m with rfl | m
    · exact ⟨n, t, by simp, rfl⟩
    · obtain ⟨n', t', h, e⟩ := fw_mem m
      exact ⟨n', t', List.mem_cons_of_mem _ h, e⟩
  | [], _, m => by simp [fw] at m
  | _ :: _, [], m => by simp [fw] at m
theorem fw_len : ∀ (ls : List Str) (ks : List T), (fw ls ks).length ≤ ks.length
  | [], _ => by simp [fw]
  | _ :: _, [] => by simp [fw]
  | n :: ls, t :: r => by have := fw_len ls r; simp only [fw, List.length_cons]; omega
theorem kid_size {t : T} : ∀ {ks : List T}, t ∈ ks → t.size ≤ T.sizes ks
  | u :: r, m => by
    simp only [T.sizes]
    rcases List.mem_cons.mp m with rfl | m
    · omega
    · have := kid_size m; omega
  | [], m => by cases m
theorem kid_deep {t : T} : ∀ {ks : List T}, t ∈ ks → t.deep ≤ T.deeps ks
  | u :: r, m => by
    simp only [T.deeps]
    rcases List.mem_cons.mp m with rfl | m
    · omega
    · have := kid_deep m; omega
  | [], m => by cases m
/-- of a term within: of what is told of the whole -/
theorem kid_of {h : Hd} {ks : List T} {t : T} {n : Nat} (w : Wt (.node h ks)) (s : (T.node h ks).size ≤ 400) (d : (T.node h ks).deep ≤ n + 1) (m : t ∈ ks) : Wt t ∧ t.size ≤ 400 ∧ t.deep ≤ n ∧ t.wds.length ≤ 3600 := by
  have h1 := kid_size m
  have h2 := kid_deep m
  simp only [T.size] at s
  simp only [T.deep] at d
  have hs : t.size ≤ 400 := by omega
  exact ⟨w.kid m, hs, by omega, wds_len (w.kid m) hs⟩
theorem log_ok {k : Int} (h : -(10 ^ 30) ≤ k ∧ k ≤ 10 ^ 30) : k.natAbs.log2 < 1920 := by
  have h1 : k.natAbs ≤ 10 ^ 30 := by omega
  by_cases z : k.natAbs = 0
  · rw [z]; decide
  · exact Nat.lt_of_lt_of_le ((Nat.log2_lt z).mpr (show k.natAbs < 2 ^ 100 by omega)) (by decide)
def tfD : List (Key × V) := [(Sum.inr "True", V.str "true"), (Sum.inr "False", V.str "false")]
theorem tf_merge : mergeK [] tfD = tfD := by kernel_rfl
theorem tf_none {x : Str} {c : Nat} {r : List Nat} (e : tl x = c :: r) (h1 : c ≠ 84) (h2 : c ≠ 70) : valV (mergeK [] tfD) (Sum.inr x) = none := by
  rw [tf_merge]
  unfold tfD
  rw [valV_neg (fun z => ?_), valV_neg (fun z => ?_), valV_nil]
  · have z' : ("False" : Str) = x := Sum.inr.inj z
    rw [← z'] at e
    have : c = 70 := (List.cons.inj (show tl "False" = c :: r from e)).1.symm
    exact h2 this
  · have z' : ("True" : Str) = x := Sum.inr.inj z
    rw [← z'] at e
    have : c = 84 := (List.cons.inj (show tl "True" = c :: r from e)).1.symm
    exact h1 this
theorem tf_bool (b : Bool) : valV (mergeK [] tfD) (Sum.inr (if b then "True" else "False")) = some (.str (if b then "true" else "false")) := by
  rw [tf_merge]
  cases b <;> kernel_rfl
theorem name_first {x : Str} (h : isName x) : ∃ c r, tl x = c :: r ∧ c ≠ 84 ∧ c ≠ 70 := by
  cases e : tl x with
  | nil =>
    have : x.length = 0 := by
      have z : x.cps.toList.length = 0 := by rw [show x.cps.toList = [] from e]; rfl
      rw [Array.length_toList] at z
      exact z
    have := h.1
    omega
  | cons c r =>
    have := h.2.2 c (by rw [show x.cps.toList = c :: r from e]; exact List.mem_cons_self)
    exact ⟨c, r, rfl, by omega, by omega⟩
theorem wds_len0 {l : List T} (h : ∀ t ∈ l, t.wds.length ≤ 3600) : (cw (l.map T.wds)).length ≤ l.length * 3701 := by
  have := cw_len (l.map T.wds) fun a m => by
    obtain ⟨t, ht, rfl⟩ := List.mem_map.mp m
    have := h t ht
    omega
  rw [List.length_map] at this
  exact this
theorem fds_len0 {ls : List Str} {l : List T} (h : ∀ t ∈ l, t.wds.length ≤ 3600) : (cw (fw ls l)).length ≤ l.length * 3701 := by
  have h1 := cw_len (fw ls l) fun a m => by
    obtain ⟨n, t, ht, rfl⟩ := fw_mem m
    have := h t ht
    simp only [List.length_cons]
    omega
  have h2 := Nat.mul_le_mul_right 3701 (fw_len ls l)
  omega
def spWords (K : PySem.W.Frag) (n : Nat) : Sp := fun vs H Q _ => ∃ (v : V) (t : T) (G0 : Hp), vs = [v] ∧ Same G0 H ∧ Tm K G0 v t ∧ Wt t ∧ t.size ≤ 400 ∧ t.deep ≤ n ∧
  ∀ (r : Addr) (H' : Hp), Same H H' → H r = none → H' r = some (.lst (t.wds.map V.str)) → Q (.ref r) H'
abbrev s_law_words : Stmt := topS 76
abbrev N_law_words : List Str := ["node", "word", "rest", "found", "one", "more"]
theorem sc_law_words : FnScope N_law_words ["node"] (defScope s_law_words) := ⟨rfl, rfl, rfl, by decide +kernel, rfl, by decide +kernel, by decide +kernel⟩
section
variable {P : Program} {w : World} {K : PySem.W.Frag} {mg : Str → Option Value} {base : Heap}
theorem ok_words {n : Nat} (S : Stands K mg "_law_words" s_law_words ["node"]) (Z : Blt mg) (H_law_words : DefOk P w K mg base CX0 (n + 2) "_law_words" ["node"] (spWords K n)) :
    DefOk P w K mg base CX0 (n + 3) "_law_words" ["node"] (spWords K (n + 1)) := by
  have z_str := Z.str
  obtain ⟨f, fd, F, hm, hb⟩ := S
  obtain ⟨f_law_words, fd_law_words, G_law_words, m_law_words, k_law_words, b_law_words⟩ := H_law_words
  refine ⟨f, fd, ?_, hm, F.kp, hb⟩
  have nd := sc_law_words.nd
  refine F.ok sc_law_words (fun vs H Q E h => ?_) (fun cdv A outer s0 H vs Q E hr h => ?_)
  · obtain ⟨v, t, G0, rfl, _⟩ := h
    rfl
  obtain ⟨v, t, G0, rfl, hG, hT, hW, hsz, hdp, q⟩ := h
  refine ⟨_, (pss_cons (ps_set (i := 1) nd rfl (Or.inl rfl) (pe_ix ix_tup (pv 0) pe_int (fun _ _ => rfl)))
      (pss_cons (ps_if (pt_cmpR op_in_seq (pv 1) (pe_tup (pa_cons pe_str (pa_cons pe_str (pa_cons pe_str pa_nil)))) (by rfl)) (pss_one (ps_ret (pe_lst (pa_cons (pe_dget2 (Nat.lt_of_le_of_lt (Nat.add_le_add_left (by decide) _) hr.units) (pe_disp (pps_cons pe_str pe_str (pps_cons pe_str pe_str pps_nil)) (by rfl) (by rfl) (fun z => by cases z) (by decide)) (pe_callTy (call_str_int.or (SkE.call_str_str.or call_str_bl)) (by rfl) z_str (by decide +kernel) (pa_cons (pe_ix ix_tup (pv 0) pe_int (fun _ _ => rfl)) pa_nil)) (pe_callTy (call_str_int.or (SkE.call_str_str.or call_str_bl)) (by rfl) z_str (by decide +kernel) (pa_cons (pe_ix ix_tup (pv 0) pe_int (fun _ _ => rfl)) pa_nil)) ⟨by rfl, by rfl, by rfl, by rfl⟩) pa_nil)))) pss_nil)
      (pss_cons (ps_if (pt_cmpR op_eq (pv 1) pe_str (nomark _)) (pss_one (ps_ret (pe_op op_cat (pe_op op_cat (pe_lst (pa_cons pe_str (pa_cons pe_str (pa_cons (pe_ix ix_tup (pv 0) pe_int (fun _ _ => rfl)) (pa_cons pe_str pa_nil))))) (pe_call G_law_words (hr.mono (by omega)) rfl m_law_words k_law_words b_law_words .nil pass0 (pa_cons (pe_ix ix_tup (pv 0) pe_int (fun _ _ => rfl)) pa_nil))) (pe_lst (pa_cons pe_str pa_nil))))) pss_nil)
      (pss_cons (ps_if (pt_cmpR op_eq (pv 1) pe_str (nomark _)) (pss_one (ps_ret (pe_op op_cat (pe_op op_cat (pe_op op_cat (pe_lst (pa_cons pe_str pa_nil)) (pe_call G_law_words (hr.mono (by omega)) rfl m_law_words k_law_words b_law_words .nil pass0 (pa_cons (pe_ix ix_tup (pv 0) pe_int (fun _ _ => rfl)) pa_nil))) (pe_call G_law_words (hr.mono (by omega)) rfl m_law_words k_law_words b_law_words .nil pass0 (pa_cons (pe_ix ix_tup (pv 0) pe_int (fun _ _ => rfl)) pa_nil))) (pe_lst (pa_cons pe_str pa_nil))))) pss_nil)
      (pss_cons (ps_if (pt_cmpR op_in_seq (pv 1) (pe_tup (pa_cons pe_str (pa_cons pe_str pa_nil))) (by rfl)) (pss_one (ps_ret (pe_op op_cat (pe_op op_cat (pe_op op_cat (pe_op op_cat (pe_lst (pa_cons pe_str (pa_cons (pv 1) (pa_cons (pe_ix ix_tup (pv 0) pe_int (fun _ _ => rfl)) (pa_cons pe_str pa_nil))))) (pe_call G_law_words (hr.mono (by omega)) rfl m_law_words k_law_words b_law_words .nil pass0 (pa_cons (pe_ix ix_tup (pv 0) pe_int (fun _ _ => rfl)) pa_nil))) (pe_lst (pa_cons pe_str pa_nil))) (pe_call G_law_words (hr.mono (by omega)) rfl m_law_words k_law_words b_law_words .nil pass0 (pa_cons (pe_ix ix_tup (pv 0) pe_int (fun _ _ => rfl)) pa_nil))) (pe_lst (pa_cons pe_str pa_nil))))) pss_nil)
      (pss_cons (ps_if (pt_cmpR op_eq (pv 1) pe_str (nomark _)) (pss_cons (ps_set (i := 2) nd rfl (Or.inl rfl) (pe_op op_cat (pe_op op_cat (pe_op op_cat (pe_lst (pa_cons pe_str pa_nil)) (pe_call G_law_words (hr.mono (by omega)) rfl m_law_words k_law_words b_law_words .nil pass0 (pa_cons (pe_ix ix_tup (pv 0) pe_int (fun _ _ => rfl)) pa_nil))) (pe_lst (pa_cons pe_str pa_nil))) (pe_call G_law_words (hr.mono (by omega)) rfl m_law_words k_law_words b_law_words .nil pass0 (pa_cons (pe_ix ix_tup (pv 0) pe_int (fun _ _ => rfl)) pa_nil))))
      (pss_one (ps_ret (pe_op op_cat (pe_op op_cat (pe_op op_cat (pe_lst (pa_cons pe_str (pa_cons pe_str pa_nil))) (pe_call G_law_words (hr.mono (by omega)) rfl m_law_words k_law_words b_law_words .nil pass0 (pa_cons (pe_ix ix_tup (pv 0) pe_int (fun _ _ => rfl)) pa_nil))) (pv 2)) (pe_lst (pa_cons pe_str pa_nil)))))) pss_nil)
      (pss_cons (ps_if (pt_cmpR op_eq (pv 1) pe_str (nomark _)) (pss_one (ps_ret (pe_op op_cat (pe_op op_cat (pe_lst (pa_cons pe_str (pa_cons (pe_callTy call_str_int (by rfl) z_str (by decide +kernel) (pa_cons (pe_ix ix_tup (pv 0) pe_int (fun _ _ => rfl)) pa_nil)) (pa_cons pe_str (pa_cons (pe_callTy call_str_int (by rfl) z_str (by decide +kernel) (pa_cons (pe_ix ix_tup (pv 0) pe_int (fun _ _ => rfl)) pa_nil)) pa_nil))))) (pe_call G_law_words (hr.mono (by omega)) rfl m_law_words k_law_words b_law_words .nil pass0 (pa_cons (pe_ix ix_tup (pv 0) pe_int (fun _ _ => rfl)) pa_nil))) (pe_lst (pa_cons pe_str pa_nil))))) pss_nil)
      (pss_cons (ps_if (pt_cmpR op_eq (pv 1) pe_str (nomark _)) (pss_one (ps_ret (pe_op op_cat (pe_op op_cat (pe_lst (pa_cons pe_str pa_nil)) (pe_call G_law_words (hr.mono (by omega)) rfl m_law_words k_law_words b_law_words .nil pass0 (pa_cons (pe_ix ix_tup (pv 0) pe_int (fun _ _ => rfl)) pa_nil))) (pe_lst (pa_cons pe_str (pa_cons (pe_ix ix_tup (pv 0) pe_int (fun _ _ => rfl)) (pa_cons pe_str pa_nil))))))) pss_nil)
      (pss_cons (ps_if (pt_cmpR op_eq (pv 1) pe_str (nomark _)) (pss_one (ps_ret (pe_op op_cat (pe_op op_cat (pe_op op_cat (pe_op op_cat (pe_lst (pa_cons pe_str pa_nil)) (pe_call G_law_words (hr.mono (by omega)) rfl m_law_words k_law_words b_law_words .nil pass0 (pa_cons (pe_ix ix_tup (pv 0) pe_int (fun _ _ => rfl)) pa_nil))) (pe_lst (pa_cons pe_str (pa_cons (pe_ix ix_tup (pv 0) pe_int (fun _ _ => rfl)) (pa_cons pe_str pa_nil))))) (pe_call G_law_words (hr.mono (by omega)) rfl m_law_words k_law_words b_law_words .nil pass0 (pa_cons (pe_ix ix_tup (pv 0) pe_int (fun _ _ => rfl)) pa_nil))) (pe_lst (pa_cons pe_str pa_nil))))) pss_nil)
      (pss_cons (ps_set (i := 3) nd rfl (Or.inl rfl) (pe_lst pa_nil))
      (pss_cons (ps_for PassesOwn.never rfl (pi_list (pe_ix ix_tup (pv 0) pe_int (fun _ _ => rfl))) (pg_name (i := 4) nd rfl (Or.inl rfl)) (pss_cons (ps_set (i := 5) nd rfl (Or.inl rfl) (pe_ifExp (pt_cmpR op_eq (pv 1) pe_str (nomark _)) (pe_call G_law_words (hr.mono (by omega)) rfl m_law_words k_law_words b_law_words .nil pass0 (pa_cons (pv 4) pa_nil)) (pe_op op_cat (pe_lst (pa_cons (pe_ix ix_tup (pv 4) pe_int (fun _ _ => rfl)) (pa_cons pe_str pa_nil))) (pe_call G_law_words (hr.mono (by omega)) rfl m_law_words k_law_words b_law_words .nil pass0 (pa_cons (pe_ix ix_tup (pv 4) pe_int (fun _ _ => rfl)) pa_nil)))))
      (pss_one (ps_set (i := 3) nd rfl (Or.inl rfl) (pe_op op_cat (pe_op op_cat (pv 3) (pe_lst (pa_cons pe_str pa_nil))) (pv 5))))))
      (pss_one (ps_ret (pe_ifExp (pt_cmpR op_eq (pv 1) pe_str (nomark _)) (pe_op op_cat (pe_op op_cat (pe_lst (pa_cons pe_str pa_nil)) (pe_slice sl_list (pv 3) (po_some pe_int) po_none)) (pe_lst (pa_cons pe_str pa_nil))) (pe_op op_cat (pe_op op_cat (pe_lst (pa_cons pe_str pa_nil)) (pe_slice sl_list (pv 3) (po_some pe_int) po_none)) (pe_lst (pa_cons pe_str pa_nil))))))))))))))))), ?_⟩
  walk_at "rd"
  cases hT with
  | @var a n hx0 =>
    have hx := hG.tupS hx0
    have SG := hG
    have SH := Same.refl H
    walk_at "rd"
    intro p1 h1
    have S1 := same_new h1 (.tup [V.str "var", V.str "int", V.str "bool"])
    have SG := SG.trans S1
    have SH := SH.trans S1
    have hx := S1.tupS hx
    refine ⟨p1, _, rfl, .inr (SqT.of upd_same), rfl, rfl, _, rfl, ?_⟩
    refine ifT (by kernel_rfl) ?_
    clear h1
    generalize upd H p1 (.tup [V.str "var", V.str "int", V.str "bool"]) = X1 at *
    obtain ⟨c0, r0, e0, c1, c2⟩ := name_first hW.hd.2
    intro p9 h9
    walk_at "rd"
    have S9 := same_new h9 (.dK (mergeK [] tfD))
    refine ⟨upd_same, tfD, rfl, by decide, ?_⟩
    have e9 : upd (upd X1 p9 (.dK [])) p9 (.dK (mergeK [] tfD)) = upd X1 p9 (.dK (mergeK [] tfD)) := by funext b; unfold upd; split <;> rfl
    rw [e9]
    clear e9 h9
    have l9 := @upd_same X1 p9 (.dK (mergeK [] tfD))
    have SG := SG.trans S9
    have SH := SH.trans S9
    have hx := S9.tupS hx
    generalize upd X1 p9 (.dK (mergeK [] tfD)) = X9 at *
    refine ⟨p9, rfl, .inl ⟨_, .inl l9⟩, ?_⟩
    walk_at "rd"
    refine .inr (.inl ⟨_, rfl, ?_⟩)
    walk_at "rd"
    refine .inr (.inl ⟨_, rfl, ?_⟩)
    refine ⟨_, DGet.k (k := Sum.inr n) l9, ?_⟩
    rw [tf_none e0 c1 c2]
    walk_at "rd"
    intro p8 h8
    have S8 := same_new h8 (.lst [V.str n])
    exact q p8 _ (SH.trans S8) (SH.fr h8) upd_same
  | @int a k hx0 =>
    have hx := hG.tupS hx0
    have SG := hG
    have SH := Same.refl H
    walk_at "rd"
    intro p1 h1
    have S1 := same_new h1 (.tup [V.str "var", V.str "int", V.str "bool"])
    have SG := SG.trans S1
    have SH := SH.trans S1
    have hx := S1.tupS hx
    refine ⟨p1, _, rfl, .inr (SqT.of upd_same), rfl, rfl, _, rfl, ?_⟩
    refine ifT (by kernel_rfl) ?_
    clear h1
    generalize upd H p1 (.tup [V.str "var", V.str "int", V.str "bool"]) = X1 at *
    have iw := hW.hd
    simp only [okHd] at iw
    obtain ⟨c0, r0, e0, c1⟩ := num_first k
    intro p9 h9
    walk_at "rd"
    have S9 := same_new h9 (.dK (mergeK [] tfD))
    refine ⟨upd_same, tfD, rfl, by decide, ?_⟩
    have e9 : upd (upd X1 p9 (.dK [])) p9 (.dK (mergeK [] tfD)) = upd X1 p9 (.dK (mergeK [] tfD)) := by funext b; unfold upd; split <;> rfl
    rw [e9]
    clear e9 h9
    have l9 := @upd_same X1 p9 (.dK (mergeK [] tfD))
    have SG := SG.trans S9
    have SH := SH.trans S9
    have hx := S9.tupS hx
    generalize upd X1 p9 (.dK (mergeK [] tfD)) = X9 at *
    refine ⟨p9, rfl, .inl ⟨_, .inl l9⟩, ?_⟩
    walk_at "rd"
    refine ⟨log_ok iw.2, ?_⟩
    walk_at "rd"
    refine ⟨log_ok iw.2, ?_⟩
    refine ⟨_, DGet.k (k := Sum.inr (intS k)) l9, ?_⟩
    rw [tf_none e0 (by omega) (by omega)]
    walk_at "rd"
    intro p8 h8
    have S8 := same_new h8 (.lst [V.str (intS k)])
    exact q p8 _ (SH.trans S8) (SH.fr h8) upd_same
  | @bool a b hx0 =>
    have hx := hG.tupS hx0
    have SG := hG
    have SH := Same.refl H
    walk_at "rd"
    intro p1 h1
    have S1 := same_new h1 (.tup [V.str "var", V.str "int", V.str "bool"])
    have SG := SG.trans S1
    have SH := SH.trans S1
    have hx := S1.tupS hx
    refine ⟨p1, _, rfl, .inr (SqT.of upd_same), rfl, rfl, _, rfl, ?_⟩
    refine ifT (by kernel_rfl) ?_
    clear h1
    generalize upd H p1 (.tup [V.str "var", V.str "int", V.str "bool"]) = X1 at *
    intro p9 h9
    walk_at "rd"
    have S9 := same_new h9 (.dK (mergeK [] tfD))
    refine ⟨upd_same, tfD, rfl, by decide, ?_⟩
    have e9 : upd (upd X1 p9 (.dK [])) p9 (.dK (mergeK [] tfD)) = upd X1 p9 (.dK (mergeK [] tfD)) := by funext b; unfold upd; split <;> rfl
    rw [e9]
    clear e9 h9
    have l9 := @upd_same X1 p9 (.dK (mergeK [] tfD))
    have SG := SG.trans S9
    have SH := SH.trans S9
    have hx := S9.tupS hx
    generalize upd X1 p9 (.dK (mergeK [] tfD)) = X9 at *
    refine ⟨p9, rfl, .inl ⟨_, .inl l9⟩, ?_⟩
    walk_at "rd"
    refine .inr (.inr ⟨_, rfl, ?_⟩)
    walk_at "rd"
    refine .inr (.inr ⟨_, rfl, ?_⟩)
    refine ⟨_, DGet.k (k := Sum.inr (if b then "True" else "False")) l9, ?_⟩
    rw [tf_bool b]
    walk_at "rd"
    intro p8 h8
    have S8 := same_new h8 (.lst [V.str (if b then "true" else "false")])
    exact q p8 _ (SH.trans S8) (SH.fr h8) upd_same
  | @fn a n v1 t1 hx0 h1 =>
    have hx := hG.tupS hx0
    have SG := hG
    have SH := Same.refl H
    walk_at "rd"
    intro p1 h1
    have S1 := same_new h1 (.tup [V.str "var", V.str "int", V.str "bool"])
    have SG := SG.trans S1
    have SH := SH.trans S1
    have hx := S1.tupS hx
    refine ⟨p1, _, rfl, .inr (SqT.of upd_same), rfl, rfl, _, rfl, ?_⟩
    refine ifF (by kernel_rfl) ?_
    clear h1
    generalize upd H p1 (.tup [V.str "var", V.str "int", V.str "bool"]) = X1 at *
    walk_at "rd"
    try (refine ifT (by kernel_rfl) ?_)
    obtain ⟨w1, s1, d1, b1⟩ := kid_of (t := t1) hW hsz hdp (by simp)
    walk_at "rd"
    intro p2 h2
    have S2 := same_new h2 (.lst [V.str "(", V.str "fun", V.str n, V.str "."])
    have l2 : (upd X1 p2 (.lst [V.str "(", V.str "fun", V.str n, V.str "."])) p2 = some (.lst (((["(", "fun", n, "."] : List Str) : List Str).map V.str)) := upd_same
    have SG := SG.trans S2
    have SH := SH.trans S2
    have hx := S2.tupS hx
    clear h2
    generalize upd X1 p2 (.lst [V.str "(", V.str "fun", V.str n, V.str "."]) = X2 at *
    walk_at "rd"
    refine ⟨v1, t1, G0, rfl, SG, h1, w1, s1, d1, fun p3 X3 S3 r3 l3 => ?_⟩
    have SG := SG.trans S3
    have SH := SH.trans S3
    have hx := S3.tupS hx
    have l2 := S3 _ _ l2
    walk_at "rd"
    refine ⟨p2, p3, _, _, rfl, rfl, l2, l3, by simp only [List.length_map, List.length_append, List.length_cons, List.length_nil]; rw [sizeLine_eq]; omega, fun p4 h4 => ?_⟩
    have r4 : H p4 = none := SH.fr h4
    have S4 := same_new h4 (.lst (((["(", "fun", n, "."] : List Str) : List Str).map V.str ++ ((t1.wds) : List Str).map V.str))
    have l4 : (upd X3 p4 (.lst (((["(", "fun", n, "."] : List Str) : List Str).map V.str ++ ((t1.wds) : List Str).map V.str))) p4 = some (.lst (((["(", "fun", n, "."] : List Str) ++ (t1.wds) : List Str).map V.str)) := by simp only [upd_same, List.map_append]
    have SG := SG.trans S4
    have SH := SH.trans S4
    have hx := S4.tupS hx
    have l2 := S4 _ _ l2
    have l3 := S4 _ _ l3
    clear h4 l2 l3
    generalize upd X3 p4 (.lst (((["(", "fun", n, "."] : List Str) : List Str).map V.str ++ ((t1.wds) : List Str).map V.str)) = X4 at *
    walk_at "rd"
    intro p5 h5
    have S5 := same_new h5 (.lst [V.str ")"])
    have l5 : (upd X4 p5 (.lst [V.str ")"])) p5 = some (.lst ((([")"] : List Str) : List Str).map V.str)) := upd_same
    have SG := SG.trans S5
    have SH := SH.trans S5
    have hx := S5.tupS hx
    have l4 := S5 _ _ l4
    clear h5
    generalize upd X4 p5 (.lst [V.str ")"]) = X5 at *
    walk_at "rd"
    refine ⟨p4, p5, _, _, rfl, rfl, l4, l5, by simp only [List.length_map, List.length_append, List.length_cons, List.length_nil]; rw [sizeLine_eq]; omega, fun p6 h6 => ?_⟩
    have r6 : H p6 = none := SH.fr h6
    have S6 := same_new h6 (.lst (((["(", "fun", n, "."] : List Str) ++ t1.wds : List Str).map V.str ++ ((([")"] : List Str)) : List Str).map V.str))
    have l6 : (upd X5 p6 (.lst (((["(", "fun", n, "."] : List Str) ++ t1.wds : List Str).map V.str ++ ((([")"] : List Str)) : List Str).map V.str))) p6 = some (.lst (((["(", "fun", n, "."] : List Str) ++ t1.wds ++ (([")"] : List Str)) : List Str).map V.str)) := by simp only [upd_same, List.map_append]
    have SG := SG.trans S6
    have SH := SH.trans S6
    have hx := S6.tupS hx
    have l4 := S6 _ _ l4
    have l5 := S6 _ _ l5
    clear h6 l4 l5
    generalize upd X5 p6 (.lst (((["(", "fun", n, "."] : List Str) ++ t1.wds : List Str).map V.str ++ ((([")"] : List Str)) : List Str).map V.str)) = X6 at *
    walk_at "rd"
    refine q p6 X6 SH r6 ?_
    rw [l6]
    refine congrArg (fun z : List Str => some (HO.lst (z.map V.str))) ?_
    simp [T.wds, T.toks, T.tokss, Hd.toks, wd, nmW]
  | @app a v1 t1 v2 t2 hx0 h1 h2 =>
    have hx := hG.tupS hx0
    have SG := hG
    have SH := Same.refl H
    walk_at "rd"
    intro p1 h1
    have S1 := same_new h1 (.tup [V.str "var", V.str "int", V.str "bool"])
    have SG := SG.trans S1
    have SH := SH.trans S1
    have hx := S1.tupS hx
    refine ⟨p1, _, rfl, .inr (SqT.of upd_same), rfl, rfl, _, rfl, ?_⟩
    refine ifF (by kernel_rfl) ?_
    clear h1
    generalize upd H p1 (.tup [V.str "var", V.str "int", V.str "bool"]) = X1 at *
    walk_at "rd"
    try (refine ifF (by kernel_rfl) ?_)
    walk_at "rd"
    try (refine ifT (by kernel_rfl) ?_)
    obtain ⟨w1, s1, d1, b1⟩ := kid_of (t := t1) hW hsz hdp (by simp)
    obtain ⟨w2, s2, d2, b2⟩ := kid_of (t := t2) hW hsz hdp (by simp)
    walk_at "rd"
    intro p2 h2
    have S2 := same_new h2 (.lst [V.str "("])
    have l2 : (upd X1 p2 (.lst [V.str "("])) p2 = some (.lst (((["("] : List Str) : List Str).map V.str)) := upd_same
    have SG := SG.trans S2
    have SH := SH.trans S2
    have hx := S2.tupS hx
    clear h2
    generalize upd X1 p2 (.lst [V.str "("]) = X2 at *
    walk_at "rd"
    refine ⟨v1, t1, G0, rfl, SG, h1, w1, s1, d1, fun p3 X3 S3 r3 l3 => ?_⟩
    have SG := SG.trans S3
    have SH := SH.trans S3
    have hx := S3.tupS hx
    have l2 := S3 _ _ l2
    walk_at "rd"
    refine ⟨p2, p3, _, _, rfl, rfl, l2, l3, by simp only [List.length_map, List.length_append, List.length_cons, List.length_nil]; rw [sizeLine_eq]; omega, fun p4 h4 => ?_⟩
    have r4 : H p4 = none := SH.fr h4
    have S4 := same_new h4 (.lst (((["("] : List Str) : List Str).map V.str ++ ((t1.wds) : List Str).map V.str))
    have l4 : (upd X3 p4 (.lst (((["("] : List Str) : List Str).map V.str ++ ((t1.wds) : List Str).map V.str))) p4 = some (.lst (((["("] : List Str) ++ (t1.wds) : List Str).map V.str)) := by simp only [upd_same, List.map_append]
    have SG := SG.trans S4
    have SH := SH.trans S4
    have hx := S4.tupS hx
    have l2 := S4 _ _ l2
    have l3 := S4 _ _ l3
    clear h4 l2 l3
    generalize upd X3 p4 (.lst (((["("] : List Str) : List Str).map V.str ++ ((t1.wds) : List Str).map V.str)) = X4 at *
    walk_at "rd"
    refine ⟨v2, t2, G0, rfl, SG, h2, w2, s2, d2, fun p5 X5 S5 r5 l5 => ?_⟩
    have SG := SG.trans S5
    have SH := SH.trans S5
    have hx := S5.tupS hx
    have l4 := S5 _ _ l4
    walk_at "rd"
    refine ⟨p4, p5, _, _, rfl, rfl, l4, l5, by simp only [List.length_map, List.length_append, List.length_cons, List.length_nil]; rw [sizeLine_eq]; omega, fun p6 h6 => ?_⟩
    have r6 : H p6 = none := SH.fr h6
    have S6 := same_new h6 (.lst (((["("] : List Str) ++ t1.wds : List Str).map V.str ++ ((t2.wds) : List Str).map V.str))
    have l6 : (upd X5 p6 (.lst (((["("] : List Str) ++ t1.wds : List Str).map V.str ++ ((t2.wds) : List Str).map V.str))) p6 = some (.lst (((["("] : List Str) ++ t1.wds ++ (t2.wds) : List Str).map V.str)) := by simp only [upd_same, List.map_append]
    have SG := SG.trans S6
    have SH := SH.trans S6
    have hx := S6.tupS hx
    have l4 := S6 _ _ l4
    have l5 := S6 _ _ l5
    clear h6 l4 l5
    generalize upd X5 p6 (.lst (((["("] : List Str) ++ t1.wds : List Str).map V.str ++ ((t2.wds) : List Str).map V.str)) = X6 at *
    walk_at "rd"
    intro p7 h7
    have S7 := same_new h7 (.lst [V.str ")"])
    have l7 : (upd X6 p7 (.lst [V.str ")"])) p7 = some (.lst ((([")"] : List Str) : List Str).map V.str)) := upd_same
    have SG := SG.trans S7
    have SH := SH.trans S7
    have hx := S7.tupS hx
    have l6 := S7 _ _ l6
    clear h7
    generalize upd X6 p7 (.lst [V.str ")"]) = X7 at *
    walk_at "rd"
    refine ⟨p6, p7, _, _, rfl, rfl, l6, l7, by simp only [List.length_map, List.length_append, List.length_cons, List.length_nil]; rw [sizeLine_eq]; omega, fun p8 h8 => ?_⟩
    have r8 : H p8 = none := SH.fr h8
    have S8 := same_new h8 (.lst (((["("] : List Str) ++ t1.wds ++ t2.wds : List Str).map V.str ++ ((([")"] : List Str)) : List Str).map V.str))
    have l8 : (upd X7 p8 (.lst (((["("] : List Str) ++ t1.wds ++ t2.wds : List Str).map V.str ++ ((([")"] : List Str)) : List Str).map V.str))) p8 = some (.lst (((["("] : List Str) ++ t1.wds ++ t2.wds ++ (([")"] : List Str)) : List Str).map V.str)) := by simp only [upd_same, List.map_append]
    have SG := SG.trans S8
    have SH := SH.trans S8
    have hx := S8.tupS hx
    have l6 := S8 _ _ l6
    have l7 := S8 _ _ l7
    clear h8 l6 l7
    generalize upd X7 p8 (.lst (((["("] : List Str) ++ t1.wds ++ t2.wds : List Str).map V.str ++ ((([")"] : List Str)) : List Str).map V.str)) = X8 at *
    walk_at "rd"
    refine q p8 X8 SH r8 ?_
    rw [l8]
    refine congrArg (fun z : List Str => some (HO.lst (z.map V.str))) ?_
    simp [T.wds, T.toks, T.tokss, Hd.toks, wd, nmW]
  | @lt a n v1 t1 v2 t2 hx0 h1 h2 =>
    have hx := hG.tupS hx0
    have SG := hG
    have SH := Same.refl H
    walk_at "rd"
    intro p1 h1
    have S1 := same_new h1 (.tup [V.str "var", V.str "int", V.str "bool"])
    have SG := SG.trans S1
    have SH := SH.trans S1
    have hx := S1.tupS hx
    refine ⟨p1, _, rfl, .inr (SqT.of upd_same), rfl, rfl, _, rfl, ?_⟩
    refine ifF (by kernel_rfl) ?_
    clear h1
    generalize upd H p1 (.tup [V.str "var", V.str "int", V.str "bool"]) = X1 at *
    walk_at "rd"
    try (refine ifF (by kernel_rfl) ?_)
    walk_at "rd"
    try (refine ifF (by kernel_rfl) ?_)
    walk_at "rd"
    intro p2 h2
    have S2 := same_new h2 (.tup [V.str "let", V.str "rec"])
    have SG := SG.trans S2
    have SH := SH.trans S2
    have hx := S2.tupS hx
    refine ⟨p2, _, rfl, .inr (SqT.of upd_same), rfl, rfl, _, rfl, ?_⟩
    refine ifT (by kernel_rfl) ?_
    clear h2
    generalize upd X1 p2 (.tup [V.str "let", V.str "rec"]) = X2 at *
    obtain ⟨w1, s1, d1, b1⟩ := kid_of (t := t1) hW hsz hdp (by simp)
    obtain ⟨w2, s2, d2, b2⟩ := kid_of (t := t2) hW hsz hdp (by simp)
    walk_at "rd"
    intro p3 h3
    have S3 := same_new h3 (.lst [V.str "(", V.str "let", V.str n, V.str "="])
    have l3 : (upd X2 p3 (.lst [V.str "(", V.str "let", V.str n, V.str "="])) p3 = some (.lst (((["(", "let", n, "="] : List Str) : List Str).map V.str)) := upd_same
    have SG := SG.trans S3
    have SH := SH.trans S3
    have hx := S3.tupS hx
    clear h3
    generalize upd X2 p3 (.lst [V.str "(", V.str "let", V.str n, V.str "="]) = X3 at *
    walk_at "rd"
    refine ⟨v1, t1, G0, rfl, SG, h1, w1, s1, d1, fun p4 X4 S4 r4 l4 => ?_⟩
    have SG := SG.trans S4
    have SH := SH.trans S4
    have hx := S4.tupS hx
    have l3 := S4 _ _ l3
    walk_at "rd"
    refine ⟨p3, p4, _, _, rfl, rfl, l3, l4, by simp only [List.length_map, List.length_append, List.length_cons, List.length_nil]; rw [sizeLine_eq]; omega, fun p5 h5 => ?_⟩
    have r5 : H p5 = none := SH.fr h5
    have S5 := same_new h5 (.lst (((["(", "let", n, "="] : List Str) : List Str).map V.str ++ ((t1.wds) : List Str).map V.str))
    have l5 : (upd X4 p5 (.lst (((["(", "let", n, "="] : List Str) : List Str).map V.str ++ ((t1.wds) : List Str).map V.str))) p5 = some (.lst (((["(", "let", n, "="] : List Str) ++ (t1.wds) : List Str).map V.str)) := by simp only [upd_same, List.map_append]
    have SG := SG.trans S5
    have SH := SH.trans S5
    have hx := S5.tupS hx
    have l3 := S5 _ _ l3
    have l4 := S5 _ _ l4
    clear h5 l3 l4
    generalize upd X4 p5 (.lst (((["(", "let", n, "="] : List Str) : List Str).map V.str ++ ((t1.wds) : List Str).map V.str)) = X5 at *
    walk_at "rd"
    intro p6 h6
    have S6 := same_new h6 (.lst [V.str "in"])
    have l6 : (upd X5 p6 (.lst [V.str "in"])) p6 = some (.lst (((["in"] : List Str) : List Str).map V.str)) := upd_same
    have SG := SG.trans S6
    have SH := SH.trans S6
    have hx := S6.tupS hx
    have l5 := S6 _ _ l5
    clear h6
    generalize upd X5 p6 (.lst [V.str "in"]) = X6 at *
    walk_at "rd"
    refine ⟨p5, p6, _, _, rfl, rfl, l5, l6, by simp only [List.length_map, List.length_append, List.length_cons, List.length_nil]; rw [sizeLine_eq]; omega, fun p7 h7 => ?_⟩
    have r7 : H p7 = none := SH.fr h7
    have S7 := same_new h7 (.lst (((["(", "let", n, "="] : List Str) ++ t1.wds : List Str).map V.str ++ (((["in"] : List Str)) : List Str).map V.str))
    have l7 : (upd X6 p7 (.lst (((["(", "let", n, "="] : List Str) ++ t1.wds : List Str).map V.str ++ (((["in"] : List Str)) : List Str).map V.str))) p7 = some (.lst (((["(", "let", n, "="] : List Str) ++ t1.wds ++ ((["in"] : List Str)) : List Str).map V.str)) := by simp only [upd_same, List.map_append]
    have SG := SG.trans S7
    have SH := SH.trans S7
    have hx := S7.tupS hx
    have l5 := S7 _ _ l5
    have l6 := S7 _ _ l6
    clear h7 l5 l6
    generalize upd X6 p7 (.lst (((["(", "let", n, "="] : List Str) ++ t1.wds : List Str).map V.str ++ (((["in"] : List Str)) : List Str).map V.str)) = X7 at *
    walk_at "rd"
    refine ⟨v2, t2, G0, rfl, SG, h2, w2, s2, d2, fun p8 X8 S8 r8 l8 => ?_⟩
    have SG := SG.trans S8
    have SH := SH.trans S8
    have hx := S8.tupS hx
    have l7 := S8 _ _ l7
    walk_at "rd"
    refine ⟨p7, p8, _, _, rfl, rfl, l7, l8, by simp only [List.length_map, List.length_append, List.length_cons, List.length_nil]; rw [sizeLine_eq]; omega, fun p9 h9 => ?_⟩
    have r9 : H p9 = none := SH.fr h9
    have S9 := same_new h9 (.lst (((["(", "let", n, "="] : List Str) ++ t1.wds ++ (["in"] : List Str) : List Str).map V.str ++ ((t2.wds) : List Str).map V.str))
    have l9 : (upd X8 p9 (.lst (((["(", "let", n, "="] : List Str) ++ t1.wds ++ (["in"] : List Str) : List Str).map V.str ++ ((t2.wds) : List Str).map V.str))) p9 = some (.lst (((["(", "let", n, "="] : List Str) ++ t1.wds ++ (["in"] : List Str) ++ (t2.wds) : List Str).map V.str)) := by simp only [upd_same, List.map_append]
    have SG := SG.trans S9
    have SH := SH.trans S9
    have hx := S9.tupS hx
    have l7 := S9 _ _ l7
    have l8 := S9 _ _ l8
    clear h9 l7 l8
    generalize upd X8 p9 (.lst (((["(", "let", n, "="] : List Str) ++ t1.wds ++ (["in"] : List Str) : List Str).map V.str ++ ((t2.wds) : List Str).map V.str)) = X9 at *
    walk_at "rd"
    intro p10 h10
    have S10 := same_new h10 (.lst [V.str ")"])
    have l10 : (upd X9 p10 (.lst [V.str ")"])) p10 = some (.lst ((([")"] : List Str) : List Str).map V.str)) := upd_same
    have SG := SG.trans S10
    have SH := SH.trans S10
    have hx := S10.tupS hx
    have l9 := S10 _ _ l9
    clear h10
    generalize upd X9 p10 (.lst [V.str ")"]) = X10 at *
    walk_at "rd"
    refine ⟨p9, p10, _, _, rfl, rfl, l9, l10, by simp only [List.length_map, List.length_append, List.length_cons, List.length_nil]; rw [sizeLine_eq]; omega, fun p11 h11 => ?_⟩
    have r11 : H p11 = none := SH.fr h11
    have S11 := same_new h11 (.lst (((["(", "let", n, "="] : List Str) ++ t1.wds ++ (["in"] : List Str) ++ t2.wds : List Str).map V.str ++ ((([")"] : List Str)) : List Str).map V.str))
    have l11 : (upd X10 p11 (.lst (((["(", "let", n, "="] : List Str) ++ t1.wds ++ (["in"] : List Str) ++ t2.wds : List Str).map V.str ++ ((([")"] : List Str)) : List Str).map V.str))) p11 = some (.lst (((["(", "let", n, "="] : List Str) ++ t1.wds ++ (["in"] : List Str) ++ t2.wds ++ (([")"] : List Str)) : List Str).map V.str)) := by simp only [upd_same, List.map_append]
    have SG := SG.trans S11
    have SH := SH.trans S11
    have hx := S11.tupS hx
    have l9 := S11 _ _ l9
    have l10 := S11 _ _ l10
    clear h11 l9 l10
    generalize upd X10 p11 (.lst (((["(", "let", n, "="] : List Str) ++ t1.wds ++ (["in"] : List Str) ++ t2.wds : List Str).map V.str ++ ((([")"] : List Str)) : List Str).map V.str)) = X11 at *
    walk_at "rd"
    refine q p11 X11 SH r11 ?_
    rw [l11]
    refine congrArg (fun z : List Str => some (HO.lst (z.map V.str))) ?_
    simp [T.wds, T.toks, T.tokss, Hd.toks, wd, nmW]
  | @rc a n v1 t1 v2 t2 hx0 h1 h2 =>
    have hx := hG.tupS hx0
    have SG := hG
    have SH := Same.refl H
    walk_at "rd"
    intro p1 h1
    have S1 := same_new h1 (.tup [V.str "var", V.str "int", V.str "bool"])
    have SG := SG.trans S1
    have SH := SH.trans S1
    have hx := S1.tupS hx
    refine ⟨p1, _, rfl, .inr (SqT.of upd_same), rfl, rfl, _, rfl, ?_⟩
    refine ifF (by kernel_rfl) ?_
    clear h1
    generalize upd H p1 (.tup [V.str "var", V.str "int", V.str "bool"]) = X1 at *
    walk_at "rd"
    try (refine ifF (by kernel_rfl) ?_)
    walk_at "rd"
    try (refine ifF (by kernel_rfl) ?_)
    walk_at "rd"
    intro p2 h2
    have S2 := same_new h2 (.tup [V.str "let", V.str "rec"])
    have SG := SG.trans S2
    have SH := SH.trans S2
    have hx := S2.tupS hx
    refine ⟨p2, _, rfl, .inr (SqT.of upd_same), rfl, rfl, _, rfl, ?_⟩
    refine ifT (by kernel_rfl) ?_
    clear h2
    generalize upd X1 p2 (.tup [V.str "let", V.str "rec"]) = X2 at *
    obtain ⟨w1, s1, d1, b1⟩ := kid_of (t := t1) hW hsz hdp (by simp)
    obtain ⟨w2, s2, d2, b2⟩ := kid_of (t := t2) hW hsz hdp (by simp)
    walk_at "rd"
    intro p3 h3
    have S3 := same_new h3 (.lst [V.str "(", V.str "rec", V.str n, V.str "="])
    have l3 : (upd X2 p3 (.lst [V.str "(", V.str "rec", V.str n, V.str "="])) p3 = some (.lst (((["(", "rec", n, "="] : List Str) : List Str).map V.str)) := upd_same
    have SG := SG.trans S3
    have SH := SH.trans S3
    have hx := S3.tupS hx
    clear h3
    generalize upd X2 p3 (.lst [V.str "(", V.str "rec", V.str n, V.str "="]) = X3 at *
    walk_at "rd"
    refine ⟨v1, t1, G0, rfl, SG, h1, w1, s1, d1, fun p4 X4 S4 r4 l4 => ?_⟩
    have SG := SG.trans S4
    have SH := SH.trans S4
    have hx := S4.tupS hx
    have l3 := S4 _ _ l3
    walk_at "rd"
    refine ⟨p3, p4, _, _, rfl, rfl, l3, l4, by simp only [List.length_map, List.length_append, List.length_cons, List.length_nil]; rw [sizeLine_eq]; omega, fun p5 h5 => ?_⟩
    have r5 : H p5 = none := SH.fr h5
    have S5 := same_new h5 (.lst (((["(", "rec", n, "="] : List Str) : List Str).map V.str ++ ((t1.wds) : List Str).map V.str))
    have l5 : (upd X4 p5 (.lst (((["(", "rec", n, "="] : List Str) : List Str).map V.str ++ ((t1.wds) : List Str).map V.str))) p5 = some (.lst (((["(", "rec", n, "="] : List Str) ++ (t1.wds) : List Str).map V.str)) := by simp only [upd_same, List.map_append]
    have SG := SG.trans S5
    have SH := SH.trans S5
    have hx := S5.tupS hx
    have l3 := S5 _ _ l3
    have l4 := S5 _ _ l4
    clear h5 l3 l4
    generalize upd X4 p5 (.lst (((["(", "rec", n, "="] : List Str) : List Str).map V.str ++ ((t1.wds) : List Str).map V.str)) = X5 at *
    walk_at "rd"
    intro p6 h6
    have S6 := same_new h6 (.lst [V.str "in"])
    have l6 : (upd X5 p6 (.lst [V.str "in"])) p6 = some (.lst (((["in"] : List Str) : List Str).map V.str)) := upd_same
    have SG := SG.trans S6
    have SH := SH.trans S6
    have hx := S6.tupS hx
    have l5 := S6 _ _ l5
    clear h6
    generalize upd X5 p6 (.lst [V.str "in"]) = X6 at *
    walk_at "rd"
    refine ⟨p5, p6, _, _, rfl, rfl, l5, l6, by simp only [List.length_map, List.length_append, List.length_cons, List.length_nil]; rw [sizeLine_eq]; omega, fun p7 h7 => ?_⟩
    have r7 : H p7 = none := SH.fr h7
    have S7 := same_new h7 (.lst (((["(", "rec", n, "="] : List Str) ++ t1.wds : List Str).map V.str ++ (((["in"] : List Str)) : List Str).map V.str))
    have l7 : (upd X6 p7 (.lst (((["(", "rec", n, "="] : List Str) ++ t1.wds : List Str).map V.str ++ (((["in"] : List Str)) : List Str).map V.str))) p7 = some (.lst (((["(", "rec", n, "="] : List Str) ++ t1.wds ++ ((["in"] : List Str)) : List Str).map V.str)) := by simp only [upd_same, List.map_append]
    have SG := SG.trans S7
    have SH := SH.trans S7
    have hx := S7.tupS hx
    have l5 := S7 _ _ l5
    have l6 := S7 _ _ l6
    clear h7 l5 l6
    generalize upd X6 p7 (.lst (((["(", "rec", n, "="] : List Str) ++ t1.wds : List Str).map V.str ++ (((["in"] : List Str)) : List Str).map V.str)) = X7 at *
    walk_at "rd"
    refine ⟨v2, t2, G0, rfl, SG, h2, w2, s2, d2, fun p8 X8 S8 r8 l8 => ?_⟩
    have SG := SG.trans S8
    have SH := SH.trans S8
    have hx := S8.tupS hx
    have l7 := S8 _ _ l7
    walk_at "rd"
    refine ⟨p7, p8, _, _, rfl, rfl, l7, l8, by simp only [List.length_map, List.length_append, List.length_cons, List.length_nil]; rw [sizeLine_eq]; omega, fun p9 h9 => ?_⟩
    have r9 : H p9 = none := SH.fr h9
    have S9 := same_new h9 (.lst (((["(", "rec", n, "="] : List Str) ++ t1.wds ++ (["in"] : List Str) : List Str).map V.str ++ ((t2.wds) : List Str).map V.str))
    have l9 : (upd X8 p9 (.lst (((["(", "rec", n, "="] : List Str) ++ t1.wds ++ (["in"] : List Str) : List Str).map V.str ++ ((t2.wds) : List Str).map V.str))) p9 = some (.lst (((["(", "rec", n, "="] : List Str) ++ t1.wds ++ (["in"] : List Str) ++ (t2.wds) : List Str).map V.str)) := by simp only [upd_same, List.map_append]
    have SG := SG.trans S9
    have SH := SH.trans S9
    have hx := S9.tupS hx
    have l7 := S9 _ _ l7
    have l8 := S9 _ _ l8
    clear h9 l7 l8
    generalize upd X8 p9 (.lst (((["(", "rec", n, "="] : List Str) ++ t1.wds ++ (["in"] : List Str) : List Str).map V.str ++ ((t2.wds) : List Str).map V.str)) = X9 at *
    walk_at "rd"
    intro p10 h10
    have S10 := same_new h10 (.lst [V.str ")"])
    have l10 : (upd X9 p10 (.lst [V.str ")"])) p10 = some (.lst ((([")"] : List Str) : List Str).map V.str)) := upd_same
    have SG := SG.trans S10
    have SH := SH.trans S10
    have hx := S10.tupS hx
    have l9 := S10 _ _ l9
    clear h10
    generalize upd X9 p10 (.lst [V.str ")"]) = X10 at *
    walk_at "rd"
    refine ⟨p9, p10, _, _, rfl, rfl, l9, l10, by simp only [List.length_map, List.length_append, List.length_cons, List.length_nil]; rw [sizeLine_eq]; omega, fun p11 h11 => ?_⟩
    have r11 : H p11 = none := SH.fr h11
    have S11 := same_new h11 (.lst (((["(", "rec", n, "="] : List Str) ++ t1.wds ++ (["in"] : List Str) ++ t2.wds : List Str).map V.str ++ ((([")"] : List Str)) : List Str).map V.str))
    have l11 : (upd X10 p11 (.lst (((["(", "rec", n, "="] : List Str) ++ t1.wds ++ (["in"] : List Str) ++ t2.wds : List Str).map V.str ++ ((([")"] : List Str)) : List Str).map V.str))) p11 = some (.lst (((["(", "rec", n, "="] : List Str) ++ t1.wds ++ (["in"] : List Str) ++ t2.wds ++ (([")"] : List Str)) : List Str).map V.str)) := by simp only [upd_same, List.map_append]
    have SG := SG.trans S11
    have SH := SH.trans S11
    have hx := S11.tupS hx
    have l9 := S11 _ _ l9
    have l10 := S11 _ _ l10
    clear h11 l9 l10
    generalize upd X10 p11 (.lst (((["(", "rec", n, "="] : List Str) ++ t1.wds ++ (["in"] : List Str) ++ t2.wds : List Str).map V.str ++ ((([")"] : List Str)) : List Str).map V.str)) = X11 at *
    walk_at "rd"
    refine q p11 X11 SH r11 ?_
    rw [l11]
    refine congrArg (fun z : List Str => some (HO.lst (z.map V.str))) ?_
    simp [T.wds, T.toks, T.tokss, Hd.toks, wd, nmW]
  | @cond a v1 t1 v2 t2 v3 t3 hx0 h1 h2 h3 =>
    have hx := hG.tupS hx0
    have SG := hG
    have SH := Same.refl H
    walk_at "rd"
    intro p1 h1
    have S1 := same_new h1 (.tup [V.str "var", V.str "int", V.str "bool"])
    have SG := SG.trans S1
    have SH := SH.trans S1
    have hx := S1.tupS hx
    refine ⟨p1, _, rfl, .inr (SqT.of upd_same), rfl, rfl, _, rfl, ?_⟩
    refine ifF (by kernel_rfl) ?_
    clear h1
    generalize upd H p1 (.tup [V.str "var", V.str "int", V.str "bool"]) = X1 at *
    walk_at "rd"
    try (refine ifF (by kernel_rfl) ?_)
    walk_at "rd"
    try (refine ifF (by kernel_rfl) ?_)
    walk_at "rd"
    intro p2 h2
    have S2 := same_new h2 (.tup [V.str "let", V.str "rec"])
    have SG := SG.trans S2
    have SH := SH.trans S2
    have hx := S2.tupS hx
    refine ⟨p2, _, rfl, .inr (SqT.of upd_same), rfl, rfl, _, rfl, ?_⟩
    refine ifF (by kernel_rfl) ?_
    clear h2
    generalize upd X1 p2 (.tup [V.str "let", V.str "rec"]) = X2 at *
    walk_at "rd"
    try (refine ifT (by kernel_rfl) ?_)
    obtain ⟨w1, s1, d1, b1⟩ := kid_of (t := t1) hW hsz hdp (by simp)
    obtain ⟨w2, s2, d2, b2⟩ := kid_of (t := t2) hW hsz hdp (by simp)
    obtain ⟨w3, s3, d3, b3⟩ := kid_of (t := t3) hW hsz hdp (by simp)
    walk_at "rd"
    intro p3 h3
    have S3 := same_new h3 (.lst [V.str "then"])
    have l3 : (upd X2 p3 (.lst [V.str "then"])) p3 = some (.lst (((["then"] : List Str) : List Str).map V.str)) := upd_same
    have SG := SG.trans S3
    have SH := SH.trans S3
    have hx := S3.tupS hx
    clear h3
    generalize upd X2 p3 (.lst [V.str "then"]) = X3 at *
    walk_at "rd"
    refine ⟨v2, t2, G0, rfl, SG, h2, w2, s2, d2, fun p4 X4 S4 r4 l4 => ?_⟩
    have SG := SG.trans S4
    have SH := SH.trans S4
    have hx := S4.tupS hx
    have l3 := S4 _ _ l3
    walk_at "rd"
    refine ⟨p3, p4, _, _, rfl, rfl, l3, l4, by simp only [List.length_map, List.length_append, List.length_cons, List.length_nil]; rw [sizeLine_eq]; omega, fun p5 h5 => ?_⟩
    have r5 : H p5 = none := SH.fr h5
    have S5 := same_new h5 (.lst (((["then"] : List Str) : List Str).map V.str ++ ((t2.wds) : List Str).map V.str))
    have l5 : (upd X4 p5 (.lst (((["then"] : List Str) : List Str).map V.str ++ ((t2.wds) : List Str).map V.str))) p5 = some (.lst (((["then"] : List Str) ++ (t2.wds) : List Str).map V.str)) := by simp only [upd_same, List.map_append]
    have SG := SG.trans S5
    have SH := SH.trans S5
    have hx := S5.tupS hx
    have l3 := S5 _ _ l3
    have l4 := S5 _ _ l4
    clear h5 l3 l4
    generalize upd X4 p5 (.lst (((["then"] : List Str) : List Str).map V.str ++ ((t2.wds) : List Str).map V.str)) = X5 at *
    walk_at "rd"
    intro p6 h6
    have S6 := same_new h6 (.lst [V.str "else"])
    have l6 : (upd X5 p6 (.lst [V.str "else"])) p6 = some (.lst (((["else"] : List Str) : List Str).map V.str)) := upd_same
    have SG := SG.trans S6
    have SH := SH.trans S6
    have hx := S6.tupS hx
    have l5 := S6 _ _ l5
    clear h6
    generalize upd X5 p6 (.lst [V.str "else"]) = X6 at *
    walk_at "rd"
    refine ⟨p5, p6, _, _, rfl, rfl, l5, l6, by simp only [List.length_map, List.length_append, List.length_cons, List.length_nil]; rw [sizeLine_eq]; omega, fun p7 h7 => ?_⟩
    have r7 : H p7 = none := SH.fr h7
    have S7 := same_new h7 (.lst (((["then"] : List Str) ++ t2.wds : List Str).map V.str ++ (((["else"] : List Str)) : List Str).map V.str))
    have l7 : (upd X6 p7 (.lst (((["then"] : List Str) ++ t2.wds : List Str).map V.str ++ (((["else"] : List Str)) : List Str).map V.str))) p7 = some (.lst (((["then"] : List Str) ++ t2.wds ++ ((["else"] : List Str)) : List Str).map V.str)) := by simp only [upd_same, List.map_append]
    have SG := SG.trans S7
    have SH := SH.trans S7
    have hx := S7.tupS hx
    have l5 := S7 _ _ l5
    have l6 := S7 _ _ l6
    clear h7 l5 l6
    generalize upd X6 p7 (.lst (((["then"] : List Str) ++ t2.wds : List Str).map V.str ++ (((["else"] : List Str)) : List Str).map V.str)) = X7 at *
    walk_at "rd"
    refine ⟨v3, t3, G0, rfl, SG, h3, w3, s3, d3, fun p8 X8 S8 r8 l8 => ?_⟩
    have SG := SG.trans S8
    have SH := SH.trans S8
    have hx := S8.tupS hx
    have l7 := S8 _ _ l7
    walk_at "rd"
    refine ⟨p7, p8, _, _, rfl, rfl, l7, l8, by simp only [List.length_map, List.length_append, List.length_cons, List.length_nil]; rw [sizeLine_eq]; omega, fun p9 h9 => ?_⟩
    have r9 : H p9 = none := SH.fr h9
    have S9 := same_new h9 (.lst (((["then"] : List Str) ++ t2.wds ++ (["else"] : List Str) : List Str).map V.str ++ ((t3.wds) : List Str).map V.str))
    have l9 : (upd X8 p9 (.lst (((["then"] : List Str) ++ t2.wds ++ (["else"] : List Str) : List Str).map V.str ++ ((t3.wds) : List Str).map V.str))) p9 = some (.lst (((["then"] : List Str) ++ t2.wds ++ (["else"] : List Str) ++ (t3.wds) : List Str).map V.str)) := by simp only [upd_same, List.map_append]
    have SG := SG.trans S9
    have SH := SH.trans S9
    have hx := S9.tupS hx
    have l7 := S9 _ _ l7
    have l8 := S9 _ _ l8
    clear h9 l7 l8
    generalize upd X8 p9 (.lst (((["then"] : List Str) ++ t2.wds ++ (["else"] : List Str) : List Str).map V.str ++ ((t3.wds) : List Str).map V.str)) = X9 at *
    walk_at "rd"
    intro p10 h10
    have S10 := same_new h10 (.lst [V.str "(", V.str "if"])
    have l10 : (upd X9 p10 (.lst [V.str "(", V.str "if"])) p10 = some (.lst (((["(", "if"] : List Str) : List Str).map V.str)) := upd_same
    have SG := SG.trans S10
    have SH := SH.trans S10
    have hx := S10.tupS hx
    have l9 := S10 _ _ l9
    clear h10
    generalize upd X9 p10 (.lst [V.str "(", V.str "if"]) = X10 at *
    walk_at "rd"
    refine ⟨v1, t1, G0, rfl, SG, h1, w1, s1, d1, fun p11 X11 S11 r11 l11 => ?_⟩
    have SG := SG.trans S11
    have SH := SH.trans S11
    have hx := S11.tupS hx
    have l9 := S11 _ _ l9
    have l10 := S11 _ _ l10
    walk_at "rd"
    refine ⟨p10, p11, _, _, rfl, rfl, l10, l11, by simp only [List.length_map, List.length_append, List.length_cons, List.length_nil]; rw [sizeLine_eq]; omega, fun p12 h12 => ?_⟩
    have r12 : H p12 = none := SH.fr h12
    have S12 := same_new h12 (.lst (((["(", "if"] : List Str) : List Str).map V.str ++ ((t1.wds) : List Str).map V.str))
    have l12 : (upd X11 p12 (.lst (((["(", "if"] : List Str) : List Str).map V.str ++ ((t1.wds) : List Str).map V.str))) p12 = some (.lst (((["(", "if"] : List Str) ++ (t1.wds) : List Str).map V.str)) := by simp only [upd_same, List.map_append]
    have SG := SG.trans S12
    have SH := SH.trans S12
    have hx := S12.tupS hx
    have l9 := S12 _ _ l9
    have l10 := S12 _ _ l10
    have l11 := S12 _ _ l11
    clear h12 l10 l11
    generalize upd X11 p12 (.lst (((["(", "if"] : List Str) : List Str).map V.str ++ ((t1.wds) : List Str).map V.str)) = X12 at *
    walk_at "rd"
    refine ⟨p12, p9, _, _, rfl, rfl, l12, l9, by simp only [List.length_map, List.length_append, List.length_cons, List.length_nil]; rw [sizeLine_eq]; omega, fun p13 h13 => ?_⟩
    have r13 : H p13 = none := SH.fr h13
    have S13 := same_new h13 (.lst (((["(", "if"] : List Str) ++ t1.wds : List Str).map V.str ++ (((["then"] : List Str) ++ t2.wds ++ (["else"] : List Str) ++ t3.wds) : List Str).map V.str))
    have l13 : (upd X12 p13 (.lst (((["(", "if"] : List Str) ++ t1.wds : List Str).map V.str ++ (((["then"] : List Str) ++ t2.wds ++ (["else"] : List Str) ++ t3.wds) : List Str).map V.str))) p13 = some (.lst (((["(", "if"] : List Str) ++ t1.wds ++ ((["then"] : List Str) ++ t2.wds ++ (["else"] : List Str) ++ t3.wds) : List Str).map V.str)) := by simp only [upd_same, List.map_append]
    have SG := SG.trans S13
    have SH := SH.trans S13
    have hx := S13.tupS hx
    have l9 := S13 _ _ l9
    have l12 := S13 _ _ l12
    clear h13 l12 l9
    generalize upd X12 p13 (.lst (((["(", "if"] : List Str) ++ t1.wds : List Str).map V.str ++ (((["then"] : List Str) ++ t2.wds ++ (["else"] : List Str) ++ t3.wds) : List Str).map V.str)) = X13 at *
    walk_at "rd"
    intro p14 h14
    have S14 := same_new h14 (.lst [V.str ")"])
    have l14 : (upd X13 p14 (.lst [V.str ")"])) p14 = some (.lst ((([")"] : List Str) : List Str).map V.str)) := upd_same
    have SG := SG.trans S14
    have SH := SH.trans S14
    have hx := S14.tupS hx
    have l13 := S14 _ _ l13
    clear h14
    generalize upd X13 p14 (.lst [V.str ")"]) = X14 at *
    walk_at "rd"
    refine ⟨p13, p14, _, _, rfl, rfl, l13, l14, by simp only [List.length_map, List.length_append, List.length_cons, List.length_nil]; rw [sizeLine_eq]; omega, fun p15 h15 => ?_⟩
    have r15 : H p15 = none := SH.fr h15
    have S15 := same_new h15 (.lst (((["(", "if"] : List Str) ++ t1.wds ++ ((["then"] : List Str) ++ t2.wds ++ (["else"] : List Str) ++ t3.wds) : List Str).map V.str ++ ((([")"] : List Str)) : List Str).map V.str))
    have l15 : (upd X14 p15 (.lst (((["(", "if"] : List Str) ++ t1.wds ++ ((["then"] : List Str) ++ t2.wds ++ (["else"] : List Str) ++ t3.wds) : List Str).map V.str ++ ((([")"] : List Str)) : List Str).map V.str))) p15 = some (.lst (((["(", "if"] : List Str) ++ t1.wds ++ ((["then"] : List Str) ++ t2.wds ++ (["else"] : List Str) ++ t3.wds) ++ (([")"] : List Str)) : List Str).map V.str)) := by simp only [upd_same, List.map_append]
    have SG := SG.trans S15
    have SH := SH.trans S15
    have hx := S15.tupS hx
    have l13 := S15 _ _ l13
    have l14 := S15 _ _ l14
    clear h15 l13 l14
    generalize upd X14 p15 (.lst (((["(", "if"] : List Str) ++ t1.wds ++ ((["then"] : List Str) ++ t2.wds ++ (["else"] : List Str) ++ t3.wds) : List Str).map V.str ++ ((([")"] : List Str)) : List Str).map V.str)) = X15 at *
    walk_at "rd"
    refine q p15 X15 SH r15 ?_
    rw [l15]
    refine congrArg (fun z : List Str => some (HO.lst (z.map V.str))) ?_
    simp [T.wds, T.toks, T.tokss, Hd.toks, wd, nmW]
  | @part a k z v1 t1 hx0 h1 =>
    have hx := hG.tupS hx0
    have SG := hG
    have SH := Same.refl H
    walk_at "rd"
    intro p1 h1
    have S1 := same_new h1 (.tup [V.str "var", V.str "int", V.str "bool"])
    have SG := SG.trans S1
    have SH := SH.trans S1
    have hx := S1.tupS hx
    refine ⟨p1, _, rfl, .inr (SqT.of upd_same), rfl, rfl, _, rfl, ?_⟩
    refine ifF (by kernel_rfl) ?_
    clear h1
    generalize upd H p1 (.tup [V.str "var", V.str "int", V.str "bool"]) = X1 at *
    walk_at "rd"
    try (refine ifF (by kernel_rfl) ?_)
    walk_at "rd"
    try (refine ifF (by kernel_rfl) ?_)
    walk_at "rd"
    intro p2 h2
    have S2 := same_new h2 (.tup [V.str "let", V.str "rec"])
    have SG := SG.trans S2
    have SH := SH.trans S2
    have hx := S2.tupS hx
    refine ⟨p2, _, rfl, .inr (SqT.of upd_same), rfl, rfl, _, rfl, ?_⟩
    refine ifF (by kernel_rfl) ?_
    clear h2
    generalize upd X1 p2 (.tup [V.str "let", V.str "rec"]) = X2 at *
    walk_at "rd"
    try (refine ifF (by kernel_rfl) ?_)
    walk_at "rd"
    try (refine ifT (by kernel_rfl) ?_)
    have iw := hW.hd
    simp only [okHd] at iw
    obtain ⟨w1, s1, d1, b1⟩ := kid_of (t := t1) hW hsz hdp (by simp)
    walk_at "rd"
    refine ⟨log_ok (by omega), ?_⟩
    walk_at "rd"
    refine ⟨log_ok (by omega), ?_⟩
    walk_at "rd"
    intro p3 h3
    have S3 := same_new h3 (.lst [V.str "(", V.str (Str.ofString (toString k)), V.str "of", V.str (Str.ofString (toString z))])
    have l3 : (upd X2 p3 (.lst [V.str "(", V.str (Str.ofString (toString k)), V.str "of", V.str (Str.ofString (toString z))])) p3 = some (.lst (((["(", intS k, "of", intS z] : List Str) : List Str).map V.str)) := upd_same
    have SG := SG.trans S3
    have SH := SH.trans S3
    have hx := S3.tupS hx
    clear h3
    generalize upd X2 p3 (.lst [V.str "(", V.str (Str.ofString (toString k)), V.str "of", V.str (Str.ofString (toString z))]) = X3 at *
    walk_at "rd"
    refine ⟨v1, t1, G0, rfl, SG, h1, w1, s1, d1, fun p4 X4 S4 r4 l4 => ?_⟩
    have SG := SG.trans S4
    have SH := SH.trans S4
    have hx := S4.tupS hx
    have l3 := S4 _ _ l3
    walk_at "rd"
    refine ⟨p3, p4, _, _, rfl, rfl, l3, l4, by simp only [List.length_map, List.length_append, List.length_cons, List.length_nil]; rw [sizeLine_eq]; omega, fun p5 h5 => ?_⟩
    have r5 : H p5 = none := SH.fr h5
    have S5 := same_new h5 (.lst (((["(", intS k, "of", intS z] : List Str) : List Str).map V.str ++ ((t1.wds) : List Str).map V.str))
    have l5 : (upd X4 p5 (.lst (((["(", intS k, "of", intS z] : List Str) : List Str).map V.str ++ ((t1.wds) : List Str).map V.str))) p5 = some (.lst (((["(", intS k, "of", intS z] : List Str) ++ (t1.wds) : List Str).map V.str)) := by simp only [upd_same, List.map_append]
    have SG := SG.trans S5
    have SH := SH.trans S5
    have hx := S5.tupS hx
    have l3 := S5 _ _ l3
    have l4 := S5 _ _ l4
    clear h5 l3 l4
    generalize upd X4 p5 (.lst (((["(", intS k, "of", intS z] : List Str) : List Str).map V.str ++ ((t1.wds) : List Str).map V.str)) = X5 at *
    walk_at "rd"
    intro p6 h6
    have S6 := same_new h6 (.lst [V.str ")"])
    have l6 : (upd X5 p6 (.lst [V.str ")"])) p6 = some (.lst ((([")"] : List Str) : List Str).map V.str)) := upd_same
    have SG := SG.trans S6
    have SH := SH.trans S6
    have hx := S6.tupS hx
    have l5 := S6 _ _ l5
    clear h6
    generalize upd X5 p6 (.lst [V.str ")"]) = X6 at *
    walk_at "rd"
    refine ⟨p5, p6, _, _, rfl, rfl, l5, l6, by simp only [List.length_map, List.length_append, List.length_cons, List.length_nil]; rw [sizeLine_eq]; omega, fun p7 h7 => ?_⟩
    have r7 : H p7 = none := SH.fr h7
    have S7 := same_new h7 (.lst (((["(", intS k, "of", intS z] : List Str) ++ t1.wds : List Str).map V.str ++ ((([")"] : List Str)) : List Str).map V.str))
    have l7 : (upd X6 p7 (.lst (((["(", intS k, "of", intS z] : List Str) ++ t1.wds : List Str).map V.str ++ ((([")"] : List Str)) : List Str).map V.str))) p7 = some (.lst (((["(", intS k, "of", intS z] : List Str) ++ t1.wds ++ (([")"] : List Str)) : List Str).map V.str)) := by simp only [upd_same, List.map_append]
    have SG := SG.trans S7
    have SH := SH.trans S7
    have hx := S7.tupS hx
    have l5 := S7 _ _ l5
    have l6 := S7 _ _ l6
    clear h7 l5 l6
    generalize upd X6 p7 (.lst (((["(", intS k, "of", intS z] : List Str) ++ t1.wds : List Str).map V.str ++ ((([")"] : List Str)) : List Str).map V.str)) = X7 at *
    walk_at "rd"
    refine q p7 X7 SH r7 ?_
    rw [l7]
    refine congrArg (fun z : List Str => some (HO.lst (z.map V.str))) ?_
    simp [T.wds, T.toks, T.tokss, Hd.toks, wd, nmW]
  | @field a v1 t1 n hx0 h1 =>
    have hx := hG.tupS hx0
    have SG := hG
    have SH := Same.refl H
    walk_at "rd"
    intro p1 h1
    have S1 := same_new h1 (.tup [V.str "var", V.str "int", V.str "bool"])
    have SG := SG.trans S1
    have SH := SH.trans S1
    have hx := S1.tupS hx
    refine ⟨p1, _, rfl, .inr (SqT.of upd_same), rfl, rfl, _, rfl, ?_⟩
    refine ifF (by kernel_rfl) ?_
    clear h1
    generalize upd H p1 (.tup [V.str "var", V.str "int", V.str "bool"]) = X1 at *
    walk_at "rd"
    try (refine ifF (by kernel_rfl) ?_)
    walk_at "rd"
    try (refine ifF (by kernel_rfl) ?_)
    walk_at "rd"
    intro p2 h2
    have S2 := same_new h2 (.tup [V.str "let", V.str "rec"])
    have SG := SG.trans S2
    have SH := SH.trans S2
    have hx := S2.tupS hx
    refine ⟨p2, _, rfl, .inr (SqT.of upd_same), rfl, rfl, _, rfl, ?_⟩
    refine ifF (by kernel_rfl) ?_
    clear h2
    generalize upd X1 p2 (.tup [V.str "let", V.str "rec"]) = X2 at *
    walk_at "rd"
    try (refine ifF (by kernel_rfl) ?_)
    walk_at "rd"
    try (refine ifF (by kernel_rfl) ?_)
    walk_at "rd"
    try (refine ifT (by kernel_rfl) ?_)
    obtain ⟨w1, s1, d1, b1⟩ := kid_of (t := t1) hW hsz hdp (by simp)
    walk_at "rd"
    intro p3 h3
    have S3 := same_new h3 (.lst [V.str "("])
    have l3 : (upd X2 p3 (.lst [V.str "("])) p3 = some (.lst (((["("] : List Str) : List Str).map V.str)) := upd_same
    have SG := SG.trans S3
    have SH := SH.trans S3
    have hx := S3.tupS hx
    clear h3
    generalize upd X2 p3 (.lst [V.str "("]) = X3 at *
    walk_at "rd"
    refine ⟨v1, t1, G0, rfl, SG, h1, w1, s1, d1, fun p4 X4 S4 r4 l4 => ?_⟩
    have SG := SG.trans S4
    have SH := SH.trans S4
    have hx := S4.tupS hx
    have l3 := S4 _ _ l3
    walk_at "rd"
    refine ⟨p3, p4, _, _, rfl, rfl, l3, l4, by simp only [List.length_map, List.length_append, List.length_cons, List.length_nil]; rw [sizeLine_eq]; omega, fun p5 h5 => ?_⟩
    have r5 : H p5 = none := SH.fr h5
    have S5 := same_new h5 (.lst (((["("] : List Str) : List Str).map V.str ++ ((t1.wds) : List Str).map V.str))
    have l5 : (upd X4 p5 (.lst (((["("] : List Str) : List Str).map V.str ++ ((t1.wds) : List Str).map V.str))) p5 = some (.lst (((["("] : List Str) ++ (t1.wds) : List Str).map V.str)) := by simp only [upd_same, List.map_append]
    have SG := SG.trans S5
    have SH := SH.trans S5
    have hx := S5.tupS hx
    have l3 := S5 _ _ l3
    have l4 := S5 _ _ l4
    clear h5 l3 l4
    generalize upd X4 p5 (.lst (((["("] : List Str) : List Str).map V.str ++ ((t1.wds) : List Str).map V.str)) = X5 at *
    walk_at "rd"
    intro p6 h6
    have S6 := same_new h6 (.lst [V.str ".", V.str n, V.str ")"])
    have l6 : (upd X5 p6 (.lst [V.str ".", V.str n, V.str ")"])) p6 = some (.lst ((([".", n, ")"] : List Str) : List Str).map V.str)) := upd_same
    have SG := SG.trans S6
    have SH := SH.trans S6
    have hx := S6.tupS hx
    have l5 := S6 _ _ l5
    clear h6
    generalize upd X5 p6 (.lst [V.str ".", V.str n, V.str ")"]) = X6 at *
    walk_at "rd"
    refine ⟨p5, p6, _, _, rfl, rfl, l5, l6, by simp only [List.length_map, List.length_append, List.length_cons, List.length_nil]; rw [sizeLine_eq]; omega, fun p7 h7 => ?_⟩
    have r7 : H p7 = none := SH.fr h7
    have S7 := same_new h7 (.lst (((["("] : List Str) ++ t1.wds : List Str).map V.str ++ ((([".", n, ")"] : List Str)) : List Str).map V.str))
    have l7 : (upd X6 p7 (.lst (((["("] : List Str) ++ t1.wds : List Str).map V.str ++ ((([".", n, ")"] : List Str)) : List Str).map V.str))) p7 = some (.lst (((["("] : List Str) ++ t1.wds ++ (([".", n, ")"] : List Str)) : List Str).map V.str)) := by simp only [upd_same, List.map_append]
    have SG := SG.trans S7
    have SH := SH.trans S7
    have hx := S7.tupS hx
    have l5 := S7 _ _ l5
    have l6 := S7 _ _ l6
    clear h7 l5 l6
    generalize upd X6 p7 (.lst (((["("] : List Str) ++ t1.wds : List Str).map V.str ++ ((([".", n, ")"] : List Str)) : List Str).map V.str)) = X7 at *
    walk_at "rd"
    refine q p7 X7 SH r7 ?_
    rw [l7]
    refine congrArg (fun z : List Str => some (HO.lst (z.map V.str))) ?_
    simp [T.wds, T.toks, T.tokss, Hd.toks, wd, nmW]
  | @wth a v1 t1 n v2 t2 hx0 h1 h2 =>
    have hx := hG.tupS hx0
    have SG := hG
    have SH := Same.refl H
    walk_at "rd"
    intro p1 h1
    have S1 := same_new h1 (.tup [V.str "var", V.str "int", V.str "bool"])
    have SG := SG.trans S1
    have SH := SH.trans S1
    have hx := S1.tupS hx
    refine ⟨p1, _, rfl, .inr (SqT.of upd_same), rfl, rfl, _, rfl, ?_⟩
    refine ifF (by kernel_rfl) ?_
    clear h1
    generalize upd H p1 (.tup [V.str "var", V.str "int", V.str "bool"]) = X1 at *
    walk_at "rd"
    try (refine ifF (by kernel_rfl) ?_)
    walk_at "rd"
    try (refine ifF (by kernel_rfl) ?_)
    walk_at "rd"
    intro p2 h2
    have S2 := same_new h2 (.tup [V.str "let", V.str "rec"])
    have SG := SG.trans S2
    have SH := SH.trans S2
    have hx := S2.tupS hx
    refine ⟨p2, _, rfl, .inr (SqT.of upd_same), rfl, rfl, _, rfl, ?_⟩
    refine ifF (by kernel_rfl) ?_
    clear h2
    generalize upd X1 p2 (.tup [V.str "let", V.str "rec"]) = X2 at *
    walk_at "rd"
    try (refine ifF (by kernel_rfl) ?_)
    walk_at "rd"
    try (refine ifF (by kernel_rfl) ?_)
    walk_at "rd"
    try (refine ifF (by kernel_rfl) ?_)
    walk_at "rd"
    try (refine ifT (by kernel_rfl) ?_)
    obtain ⟨w1, s1, d1, b1⟩ := kid_of (t := t1) hW hsz hdp (by simp)
    obtain ⟨w2, s2, d2, b2⟩ := kid_of (t := t2) hW hsz hdp (by simp)
    walk_at "rd"
    intro p3 h3
    have S3 := same_new h3 (.lst [V.str "("])
    have l3 : (upd X2 p3 (.lst [V.str "("])) p3 = some (.lst (((["("] : List Str) : List Str).map V.str)) := upd_same
    have SG := SG.trans S3
    have SH := SH.trans S3
    have hx := S3.tupS hx
    clear h3
    generalize upd X2 p3 (.lst [V.str "("]) = X3 at *
    walk_at "rd"
    refine ⟨v1, t1, G0, rfl, SG, h1, w1, s1, d1, fun p4 X4 S4 r4 l4 => ?_⟩
    have SG := SG.trans S4
    have SH := SH.trans S4
    have hx := S4.tupS hx
    have l3 := S4 _ _ l3
    walk_at "rd"
    refine ⟨p3, p4, _, _, rfl, rfl, l3, l4, by simp only [List.length_map, List.length_append, List.length_cons, List.length_nil]; rw [sizeLine_eq]; omega, fun p5 h5 => ?_⟩
    have r5 : H p5 = none := SH.fr h5
    have S5 := same_new h5 (.lst (((["("] : List Str) : List Str).map V.str ++ ((t1.wds) : List Str).map V.str))
    have l5 : (upd X4 p5 (.lst (((["("] : List Str) : List Str).map V.str ++ ((t1.wds) : List Str).map V.str))) p5 = some (.lst (((["("] : List Str) ++ (t1.wds) : List Str).map V.str)) := by simp only [upd_same, List.map_append]
    have SG := SG.trans S5
    have SH := SH.trans S5
    have hx := S5.tupS hx
    have l3 := S5 _ _ l3
    have l4 := S5 _ _ l4
    clear h5 l3 l4
    generalize upd X4 p5 (.lst (((["("] : List Str) : List Str).map V.str ++ ((t1.wds) : List Str).map V.str)) = X5 at *
    walk_at "rd"
    intro p6 h6
    have S6 := same_new h6 (.lst [V.str "with", V.str n, V.str "="])
    have l6 : (upd X5 p6 (.lst [V.str "with", V.str n, V.str "="])) p6 = some (.lst (((["with", n, "="] : List Str) : List Str).map V.str)) := upd_same
    have SG := SG.trans S6
    have SH := SH.trans S6
    have hx := S6.tupS hx
    have l5 := S6 _ _ l5
    clear h6
    generalize upd X5 p6 (.lst [V.str "with", V.str n, V.str "="]) = X6 at *
    walk_at "rd"
    refine ⟨p5, p6, _, _, rfl, rfl, l5, l6, by simp only [List.length_map, List.length_append, List.length_cons, List.length_nil]; rw [sizeLine_eq]; omega, fun p7 h7 => ?_⟩
    have r7 : H p7 = none := SH.fr h7
    have S7 := same_new h7 (.lst (((["("] : List Str) ++ t1.wds : List Str).map V.str ++ (((["with", n, "="] : List Str)) : List Str).map V.str))
    have l7 : (upd X6 p7 (.lst (((["("] : List Str) ++ t1.wds : List Str).map V.str ++ (((["with", n, "="] : List Str)) : List Str).map V.str))) p7 = some (.lst (((["("] : List Str) ++ t1.wds ++ ((["with", n, "="] : List Str)) : List Str).map V.str)) := by simp only [upd_same, List.map_append]
    have SG := SG.trans S7
    have SH := SH.trans S7
    have hx := S7.tupS hx
    have l5 := S7 _ _ l5
    have l6 := S7 _ _ l6
    clear h7 l5 l6
    generalize upd X6 p7 (.lst (((["("] : List Str) ++ t1.wds : List Str).map V.str ++ (((["with", n, "="] : List Str)) : List Str).map V.str)) = X7 at *
    walk_at "rd"
    refine ⟨v2, t2, G0, rfl, SG, h2, w2, s2, d2, fun p8 X8 S8 r8 l8 => ?_⟩
    have SG := SG.trans S8
    have SH := SH.trans S8
    have hx := S8.tupS hx
    have l7 := S8 _ _ l7
    walk_at "rd"
    refine ⟨p7, p8, _, _, rfl, rfl, l7, l8, by simp only [List.length_map, List.length_append, List.length_cons, List.length_nil]; rw [sizeLine_eq]; omega, fun p9 h9 => ?_⟩
    have r9 : H p9 = none := SH.fr h9
    have S9 := same_new h9 (.lst (((["("] : List Str) ++ t1.wds ++ (["with", n, "="] : List Str) : List Str).map V.str ++ ((t2.wds) : List Str).map V.str))
    have l9 : (upd X8 p9 (.lst (((["("] : List Str) ++ t1.wds ++ (["with", n, "="] : List Str) : List Str).map V.str ++ ((t2.wds) : List Str).map V.str))) p9 = some (.lst (((["("] : List Str) ++ t1.wds ++ (["with", n, "="] : List Str) ++ (t2.wds) : List Str).map V.str)) := by simp only [upd_same, List.map_append]
    have SG := SG.trans S9
    have SH := SH.trans S9
    have hx := S9.tupS hx
    have l7 := S9 _ _ l7
    have l8 := S9 _ _ l8
    clear h9 l7 l8
    generalize upd X8 p9 (.lst (((["("] : List Str) ++ t1.wds ++ (["with", n, "="] : List Str) : List Str).map V.str ++ ((t2.wds) : List Str).map V.str)) = X9 at *
    walk_at "rd"
    intro p10 h10
    have S10 := same_new h10 (.lst [V.str ")"])
    have l10 : (upd X9 p10 (.lst [V.str ")"])) p10 = some (.lst ((([")"] : List Str) : List Str).map V.str)) := upd_same
    have SG := SG.trans S10
    have SH := SH.trans S10
    have hx := S10.tupS hx
    have l9 := S10 _ _ l9
    clear h10
    generalize upd X9 p10 (.lst [V.str ")"]) = X10 at *
    walk_at "rd"
    refine ⟨p9, p10, _, _, rfl, rfl, l9, l10, by simp only [List.length_map, List.length_append, List.length_cons, List.length_nil]; rw [sizeLine_eq]; omega, fun p11 h11 => ?_⟩
    have r11 : H p11 = none := SH.fr h11
    have S11 := same_new h11 (.lst (((["("] : List Str) ++ t1.wds ++ (["with", n, "="] : List Str) ++ t2.wds : List Str).map V.str ++ ((([")"] : List Str)) : List Str).map V.str))
    have l11 : (upd X10 p11 (.lst (((["("] : List Str) ++ t1.wds ++ (["with", n, "="] : List Str) ++ t2.wds : List Str).map V.str ++ ((([")"] : List Str)) : List Str).map V.str))) p11 = some (.lst (((["("] : List Str) ++ t1.wds ++ (["with", n, "="] : List Str) ++ t2.wds ++ (([")"] : List Str)) : List Str).map V.str)) := by simp only [upd_same, List.map_append]
    have SG := SG.trans S11
    have SH := SH.trans S11
    have hx := S11.tupS hx
    have l9 := S11 _ _ l9
    have l10 := S11 _ _ l10
    clear h11 l9 l10
    generalize upd X10 p11 (.lst (((["("] : List Str) ++ t1.wds ++ (["with", n, "="] : List Str) ++ t2.wds : List Str).map V.str ++ ((([")"] : List Str)) : List Str).map V.str)) = X11 at *
    walk_at "rd"
    refine q p11 X11 SH r11 ?_
    rw [l11]
    refine congrArg (fun z : List Str => some (HO.lst (z.map V.str))) ?_
    simp [T.wds, T.toks, T.tokss, Hd.toks, wd, nmW]
  | @tup a b us ks hx0 hb hl hf =>
    have hx := hG.tupS hx0
    have SG := hG
    have SH := Same.refl H
    walk_at "rd"
    intro p1 h1
    have S1 := same_new h1 (.tup [V.str "var", V.str "int", V.str "bool"])
    have SG := SG.trans S1
    have SH := SH.trans S1
    have hx := S1.tupS hx
    refine ⟨p1, _, rfl, .inr (SqT.of upd_same), rfl, rfl, _, rfl, ?_⟩
    refine ifF (by kernel_rfl) ?_
    clear h1
    generalize upd H p1 (.tup [V.str "var", V.str "int", V.str "bool"]) = X1 at *
    walk_at "rd"
    try (refine ifF (by kernel_rfl) ?_)
    walk_at "rd"
    try (refine ifF (by kernel_rfl) ?_)
    walk_at "rd"
    intro p2 h2
    have S2 := same_new h2 (.tup [V.str "let", V.str "rec"])
    have SG := SG.trans S2
    have SH := SH.trans S2
    have hx := S2.tupS hx
    refine ⟨p2, _, rfl, .inr (SqT.of upd_same), rfl, rfl, _, rfl, ?_⟩
    refine ifF (by kernel_rfl) ?_
    clear h2
    generalize upd X1 p2 (.tup [V.str "let", V.str "rec"]) = X2 at *
    walk_at "rd"
    try (refine ifF (by kernel_rfl) ?_)
    walk_at "rd"
    try (refine ifF (by kernel_rfl) ?_)
    walk_at "rd"
    try (refine ifF (by kernel_rfl) ?_)
    walk_at "rd"
    try (refine ifF (by kernel_rfl) ?_)
    have iw := hW.hd
    simp only [okHd] at iw
    have kd : ∀ t ∈ ks, Wt t ∧ t.size ≤ 400 ∧ t.deep ≤ n ∧ t.wds.length ≤ 3600 := fun t m => kid_of hW hsz hdp m
    walk_at "rd"
    intro p3 h3
    have S3 := same_new h3 (.lst [])
    have l3 : (upd X2 p3 (.lst [])) p3 = some (.lst ((([] : List Str) : List Str).map V.str)) := upd_same
    have SG := SG.trans S3
    have SH := SH.trans S3
    have hx := S3.tupS hx
    clear h3
    generalize upd X2 p3 (.lst []) = X3 at *
    walk_at "rd"
    have SGl := SG
    have SHl := SH
    refine ⟨⟨_, SGl.seq hb⟩, ?_⟩
    refine for_list (K := K) (a := b) (xs := us) (fun i σ X => ∃ (F : Addr) (s4 s5 : Option V), σ = [some (.ref a), some (.str "tuple"), none, some (.ref F), s4, s5] ∧ Same X3 X ∧ X F = some (.lst ((cw ((ks.take i).map T.wds) : List Str).map V.str))) ⟨p3, none, none, rfl, Same.refl _, l3⟩ (fun i σ X hi ⟨_, _, _, _, g, _⟩ => (SGl.trans g).seq hb) ?_ ?_
    · rintro i x σ X hx1 ⟨F, s4, s5, rfl, g, lf⟩
      have hi := (List.getElem?_eq_some_iff.mp hx1).1
      have hk : ks[i]? = some (ks[i]'(by omega)) := List.getElem?_eq_getElem (by omega)
      have hti := hf i x _ hx1 hk
      obtain ⟨w1, s1, d1, b1⟩ := kd (ks[i]'(by omega)) (List.getElem_mem _)
      have SG := SG.trans g
      have SH := SH.trans g
      have cl : (cw ((ks.take i).map T.wds)).length ≤ 12 * 3701 := by
        have z := wds_len0 (l := ks.take i) fun t m => (kd t (List.mem_of_mem_take m)).2.2.2
        have z2 : (ks.take i).length ≤ 12 := by rw [List.length_take]; omega
        have z3 := Nat.mul_le_mul_right 3701 z2
        omega
      clear hx
      have ek : (cw ((ks.take (i + 1)).map T.wds)) = cw ((ks.take i).map T.wds) ++ ("," : Str) :: (ks[i]'(by omega)).wds := by
        rw [List.take_add_one, hk, List.map_append, Option.toList_some, List.map_cons, List.map_nil, cw_app]
      generalize ks[i]'(by omega) = tk at *
      have hF : X F = some (.lst (((cw ((ks.take i).map T.wds)) : List Str).map V.str)) := lf
      clear lf
      generalize cw ((ks.take i).map T.wds) = cwi at *
      refine ⟨_, rfl, ?_⟩
      walk_at "rd"
      refine ⟨x, tk, G0, rfl, SG, hti, w1, s1, d1, fun p21 X21 S21 r21 l21 => ?_⟩
      have SG := SG.trans S21
      have SH := SH.trans S21
      have g := g.trans S21
      have hF := S21 _ _ hF
      walk_at "rd"
      intro p22 h22
      have S22 := same_new h22 (.lst [V.str ","])
      have l22 : (upd X21 p22 (.lst [V.str ","])) p22 = some (.lst ((([","] : List Str) : List Str).map V.str)) := upd_same
      have SG := SG.trans S22
      have SH := SH.trans S22
      have g := g.trans S22
      have hF := S22 _ _ hF
      have l21 := S22 _ _ l21
      clear h22
      generalize upd X21 p22 (.lst [V.str ","]) = X22 at *
      have l50 := hF
      clear hF
      walk_at "rd"
      refine ⟨F, p22, _, _, rfl, rfl, l50, l22, by simp only [List.length_map, List.length_append, List.length_cons, List.length_nil]; rw [sizeLine_eq]; omega, fun p24 h24 => ?_⟩
      have r24 : H p24 = none := SH.fr h24
      have S24 := same_new h24 (.lst ((cwi : List Str).map V.str ++ ((([","] : List Str)) : List Str).map V.str))
      have l24 : (upd X22 p24 (.lst ((cwi : List Str).map V.str ++ ((([","] : List Str)) : List Str).map V.str))) p24 = some (.lst ((cwi ++ (([","] : List Str)) : List Str).map V.str)) := by simp only [upd_same, List.map_append]
      have SG := SG.trans S24
      have SH := SH.trans S24
      have g := g.trans S24
      have l21 := S24 _ _ l21
      have l22 := S24 _ _ l22
      have l50 := S24 _ _ l50
      clear h24 l50 l22
      generalize upd X22 p24 (.lst ((cwi : List Str).map V.str ++ ((([","] : List Str)) : List Str).map V.str)) = X24 at *
      walk_at "rd"
      refine ⟨p24, p21, _, _, rfl, rfl, l24, l21, by simp only [List.length_map, List.length_append, List.length_cons, List.length_nil]; rw [sizeLine_eq]; omega, fun p25 h25 => ?_⟩
      have r25 : H p25 = none := SH.fr h25
      have S25 := same_new h25 (.lst ((cwi ++ (([","] : List Str)) : List Str).map V.str ++ ((tk.wds) : List Str).map V.str))
      have l25 : (upd X24 p25 (.lst ((cwi ++ (([","] : List Str)) : List Str).map V.str ++ ((tk.wds) : List Str).map V.str))) p25 = some (.lst ((cwi ++ (([","] : List Str)) ++ (tk.wds) : List Str).map V.str)) := by simp only [upd_same, List.map_append]
      have SG := SG.trans S25
      have SH := SH.trans S25
      have g := g.trans S25
      have l21 := S25 _ _ l21
      have l24 := S25 _ _ l24
      clear h25 l24 l21
      generalize upd X24 p25 (.lst ((cwi ++ (([","] : List Str)) : List Str).map V.str ++ ((tk.wds) : List Str).map V.str)) = X25 at *
      walk_at "rd"
      exact ⟨p25, _, _, rfl, g, by rw [ek, l25]; simp⟩
    · rintro σ X ⟨F, s4, s5, rfl, g, lf⟩
      have SG := SG.trans g
      have SH := SH.trans g
      clear hx
      have hF : X F = some (.lst ((cw (ks.map T.wds) : List Str).map V.str)) := by
        rw [lf]
        rw [List.take_of_length_le (by omega)]
      clear lf
      have cl : (cw (ks.map T.wds)).length ≤ 12 * 3701 := by
        have z := wds_len0 (l := ks) fun t m => (kd t m).2.2.2
        have z3 := Nat.mul_le_mul_right 3701 (show ks.length ≤ 12 by omega)
        omega
      have ef : (T.node .tup ks).wds = (("(" : Str) :: (cw (ks.map T.wds)).drop 1) ++ [(")" : Str)] := by
        rw [← tokss_wds, cw_sepd]
        simp [T.wds, T.toks, Hd.toks, wd]
      generalize cw (ks.map T.wds) = cwi at *
      walk_at "rd"
      intro p71 h71
      have S71 := same_new h71 (.lst [V.str "("])
      have l71 : (upd X p71 (.lst [V.str "("])) p71 = some (.lst (((["("] : List Str) : List Str).map V.str)) := upd_same
      have SG := SG.trans S71
      have SH := SH.trans S71
      have hF := S71 _ _ hF
      clear h71
      generalize upd X p71 (.lst [V.str "("]) = X71 at *
      walk_at "rd"
      refine ⟨F, _, rfl, SqL.of hF, ?_⟩
      rw [cut_one, ← List.map_drop]
      intro p81 h81
      have S81 := same_new h81 (.lst ((cwi.drop 1 : List Str).map V.str))
      have l81 := @upd_same X71 p81 (.lst ((cwi.drop 1 : List Str).map V.str))
      have SG := SG.trans S81
      have SH := SH.trans S81
      have hF := S81 _ _ hF
      have l71 := S81 _ _ l71
      clear h81
      generalize upd X71 p81 (.lst ((cwi.drop 1 : List Str).map V.str)) = X81 at *
      have cl2 : (cwi.drop 1).length ≤ 12 * 3701 := by rw [List.length_drop]; omega
      walk_at "rd"
      refine ⟨p71, p81, _, _, rfl, rfl, l71, l81, by simp only [List.length_map, List.length_append, List.length_cons, List.length_nil]; rw [sizeLine_eq]; omega, fun p83 h83 => ?_⟩
      have r83 : H p83 = none := SH.fr h83
      have S83 := same_new h83 (.lst (((["("] : List Str) : List Str).map V.str ++ ((cwi.drop 1) : List Str).map V.str))
      have l83 : (upd X81 p83 (.lst (((["("] : List Str) : List Str).map V.str ++ ((cwi.drop 1) : List Str).map V.str))) p83 = some (.lst (((["("] : List Str) ++ (cwi.drop 1) : List Str).map V.str)) := by simp only [upd_same, List.map_append]
      have SG := SG.trans S83
      have SH := SH.trans S83
      have hF := S83 _ _ hF
      have l71 := S83 _ _ l71
      have l81 := S83 _ _ l81
      clear h83 l71 l81
      generalize upd X81 p83 (.lst (((["("] : List Str) : List Str).map V.str ++ ((cwi.drop 1) : List Str).map V.str)) = X83 at *
      walk_at "rd"
      intro p84 h84
      have S84 := same_new h84 (.lst [V.str ")"])
      have l84 : (upd X83 p84 (.lst [V.str ")"])) p84 = some (.lst ((([")"] : List Str) : List Str).map V.str)) := upd_same
      have SG := SG.trans S84
      have SH := SH.trans S84
      have hF := S84 _ _ hF
      have l83 := S84 _ _ l83
      clear h84
      generalize upd X83 p84 (.lst [V.str ")"]) = X84 at *
      walk_at "rd"
      refine ⟨p83, p84, _, _, rfl, rfl, l83, l84, by simp only [List.length_map, List.length_append, List.length_cons, List.length_nil]; rw [sizeLine_eq]; omega, fun p85 h85 => ?_⟩
      have r85 : H p85 = none := SH.fr h85
      have S85 := same_new h85 (.lst (((["("] : List Str) ++ (cwi.drop 1) : List Str).map V.str ++ ((([")"] : List Str)) : List Str).map V.str))
      have l85 : (upd X84 p85 (.lst (((["("] : List Str) ++ (cwi.drop 1) : List Str).map V.str ++ ((([")"] : List Str)) : List Str).map V.str))) p85 = some (.lst (((["("] : List Str) ++ (cwi.drop 1) ++ (([")"] : List Str)) : List Str).map V.str)) := by simp only [upd_same, List.map_append]
      have SG := SG.trans S85
      have SH := SH.trans S85
      have hF := S85 _ _ hF
      have l83 := S85 _ _ l83
      have l84 := S85 _ _ l84
      clear h85 l83 l84
      generalize upd X84 p85 (.lst (((["("] : List Str) ++ (cwi.drop 1) : List Str).map V.str ++ ((([")"] : List Str)) : List Str).map V.str)) = X85 at *
      walk_at "rd"
      refine q p85 X85 SH r85 ?_
      rw [l85, ef]
      simp
  | @record a b bs us ls ks hx0 hb hl1 hl2 hl3 hf1 hf2 =>
    have hx := hG.tupS hx0
    have SG := hG
    have SH := Same.refl H
    walk_at "rd"
    intro p1 h1
    have S1 := same_new h1 (.tup [V.str "var", V.str "int", V.str "bool"])
    have SG := SG.trans S1
    have SH := SH.trans S1
    have hx := S1.tupS hx
    refine ⟨p1, _, rfl, .inr (SqT.of upd_same), rfl, rfl, _, rfl, ?_⟩
    refine ifF (by kernel_rfl) ?_
    clear h1
    generalize upd H p1 (.tup [V.str "var", V.str "int", V.str "bool"]) = X1 at *
    walk_at "rd"
    try (refine ifF (by kernel_rfl) ?_)
    walk_at "rd"
    try (refine ifF (by kernel_rfl) ?_)
    walk_at "rd"
    intro p2 h2
    have S2 := same_new h2 (.tup [V.str "let", V.str "rec"])
    have SG := SG.trans S2
    have SH := SH.trans S2
    have hx := S2.tupS hx
    refine ⟨p2, _, rfl, .inr (SqT.of upd_same), rfl, rfl, _, rfl, ?_⟩
    refine ifF (by kernel_rfl) ?_
    clear h2
    generalize upd X1 p2 (.tup [V.str "let", V.str "rec"]) = X2 at *
    walk_at "rd"
    try (refine ifF (by kernel_rfl) ?_)
    walk_at "rd"
    try (refine ifF (by kernel_rfl) ?_)
    walk_at "rd"
    try (refine ifF (by kernel_rfl) ?_)
    walk_at "rd"
    try (refine ifF (by kernel_rfl) ?_)
    have iw := hW.hd
    simp only [okHd] at iw
    have kd : ∀ t ∈ ks, Wt t ∧ t.size ≤ 400 ∧ t.deep ≤ n ∧ t.wds.length ≤ 3600 := fun t m => kid_of hW hsz hdp m
    walk_at "rd"
    intro p3 h3
    have S3 := same_new h3 (.lst [])
    have l3 : (upd X2 p3 (.lst [])) p3 = some (.lst ((([] : List Str) : List Str).map V.str)) := upd_same
    have SG := SG.trans S3
    have SH := SH.trans S3
    have hx := S3.tupS hx
    clear h3
    generalize upd X2 p3 (.lst []) = X3 at *
    walk_at "rd"
    have SGl := SG
    have SHl := SH
    refine ⟨⟨_, SGl.seq hb⟩, ?_⟩
    refine for_list (K := K) (a := b) (xs := (bs.map V.ref)) (fun i σ X => ∃ (F : Addr) (s4 s5 : Option V), σ = [some (.ref a), some (.str "record"), none, some (.ref F), s4, s5] ∧ Same X3 X ∧ X F = some (.lst ((cw (fw (ls.take i) (ks.take i)) : List Str).map V.str))) ⟨p3, none, none, rfl, Same.refl _, l3⟩ (fun i σ X hi ⟨_, _, _, _, g, _⟩ => (SGl.trans g).seq hb) ?_ ?_
    · rintro i x σ X hx1 ⟨F, s4, s5, rfl, g, lf⟩
      obtain ⟨bi, hb1, hb2, rfl⟩ := get_map hx1
      have hi := (List.getElem?_eq_some_iff.mp hb2).1
      have hk : ks[i]? = some (ks[i]'(by omega)) := List.getElem?_eq_getElem (by omega)
      have hn : ls[i]? = some (ls[i]'(by omega)) := List.getElem?_eq_getElem (by omega)
      have hu : us[i]? = some (us[i]'(by omega)) := List.getElem?_eq_getElem (by omega)
      have hti := hf2 i _ _ hu hk
      have hbi0 := hf1 i bi _ _ hb2 hn hu
      obtain ⟨w1, s1, d1, b1⟩ := kd (ks[i]'(by omega)) (List.getElem_mem _)
      have SG := SG.trans g
      have SH := SH.trans g
      have cl : (cw (fw (ls.take i) (ks.take i))).length ≤ 12 * 3701 := by
        have z := fds_len0 (ls := ls.take i) (l := ks.take i) fun t m => (kd t (List.mem_of_mem_take m)).2.2.2
        have z2 : (ks.take i).length ≤ 12 := by rw [List.length_take]; omega
        have z3 := Nat.mul_le_mul_right 3701 z2
        omega
      clear hx
      have ek : (cw (fw (ls.take (i + 1)) (ks.take (i + 1)))) = cw (fw (ls.take i) (ks.take i)) ++ ("," : Str) :: (ls[i]'(by omega)) :: ("=" : Str) :: (ks[i]'(by omega)).wds := by
        rw [List.take_add_one, List.take_add_one, hk, hn, Option.toList_some, Option.toList_some, fw_snoc _ _ _ _ (by rw [List.length_take, List.length_take]; omega), cw_app]
      generalize ks[i]'(by omega) = tk at *
      generalize ls[i]'(by omega) = nk at *
      generalize us[i]'(by omega) = uk at *
      have hF : X F = some (.lst (((cw (fw (ls.take i) (ks.take i))) : List Str).map V.str)) := lf
      clear lf
      generalize cw (fw (ls.take i) (ks.take i)) = cwi at *
      refine ⟨_, rfl, ?_⟩
      have hx := SG.tupS hbi0
      walk_at "rd"
      intro p21 h21
      have S21 := same_new h21 (.lst [V.str nk, V.str "="])
      have l21 : (upd X p21 (.lst [V.str nk, V.str "="])) p21 = some (.lst ((([nk, "="] : List Str) : List Str).map V.str)) := upd_same
      have SG := SG.trans S21
      have SH := SH.trans S21
      have g := g.trans S21
      have hF := S21 _ _ hF
      have hx := S21.tupS hx
      clear h21
      generalize upd X p21 (.lst [V.str nk, V.str "="]) = X21 at *
      walk_at "rd"
      refine ⟨uk, tk, G0, rfl, SG, hti, w1, s1, d1, fun p22 X22 S22 r22 l22 => ?_⟩
      have SG := SG.trans S22
      have SH := SH.trans S22
      have g := g.trans S22
      have hF := S22 _ _ hF
      have hx := S22.tupS hx
      have l21 := S22 _ _ l21
      walk_at "rd"
      refine ⟨p21, p22, _, _, rfl, rfl, l21, l22, by simp only [List.length_map, List.length_append, List.length_cons, List.length_nil]; rw [sizeLine_eq]; omega, fun p23 h23 => ?_⟩
      have r23 : H p23 = none := SH.fr h23
      have S23 := same_new h23 (.lst ((([nk, "="] : List Str) : List Str).map V.str ++ ((tk.wds) : List Str).map V.str))
      have l23 : (upd X22 p23 (.lst ((([nk, "="] : List Str) : List Str).map V.str ++ ((tk.wds) : List Str).map V.str))) p23 = some (.lst ((([nk, "="] : List Str) ++ (tk.wds) : List Str).map V.str)) := by simp only [upd_same, List.map_append]
      have SG := SG.trans S23
      have SH := SH.trans S23
      have g := g.trans S23
      have hF := S23 _ _ hF
      have hx := S23.tupS hx
      have l21 := S23 _ _ l21
      have l22 := S23 _ _ l22
      clear h23 l21 l22
      generalize upd X22 p23 (.lst ((([nk, "="] : List Str) : List Str).map V.str ++ ((tk.wds) : List Str).map V.str)) = X23 at *
      walk_at "rd"
      intro p24 h24
      have S24 := same_new h24 (.lst [V.str ","])
      have l24 : (upd X23 p24 (.lst [V.str ","])) p24 = some (.lst ((([","] : List Str) : List Str).map V.str)) := upd_same
      have SG := SG.trans S24
      have SH := SH.trans S24
      have g := g.trans S24
      have hF := S24 _ _ hF
      have hx := S24.tupS hx
      have l23 := S24 _ _ l23
      clear h24
      generalize upd X23 p24 (.lst [V.str ","]) = X24 at *
      have l50 := hF
      clear hF
      walk_at "rd"
      refine ⟨F, p24, _, _, rfl, rfl, l50, l24, by simp only [List.length_map, List.length_append, List.length_cons, List.length_nil]; rw [sizeLine_eq]; omega, fun p26 h26 => ?_⟩
      have r26 : H p26 = none := SH.fr h26
      have S26 := same_new h26 (.lst ((cwi : List Str).map V.str ++ ((([","] : List Str)) : List Str).map V.str))
      have l26 : (upd X24 p26 (.lst ((cwi : List Str).map V.str ++ ((([","] : List Str)) : List Str).map V.str))) p26 = some (.lst ((cwi ++ (([","] : List Str)) : List Str).map V.str)) := by simp only [upd_same, List.map_append]
      have SG := SG.trans S26
      have SH := SH.trans S26
      have g := g.trans S26
      have hx := S26.tupS hx
      have l23 := S26 _ _ l23
      have l24 := S26 _ _ l24
      have l50 := S26 _ _ l50
      clear h26 l50 l24
      generalize upd X24 p26 (.lst ((cwi : List Str).map V.str ++ ((([","] : List Str)) : List Str).map V.str)) = X26 at *
      walk_at "rd"
      refine ⟨p26, p23, _, _, rfl, rfl, l26, l23, by simp only [List.length_map, List.length_append, List.length_cons, List.length_nil]; rw [sizeLine_eq]; omega, fun p27 h27 => ?_⟩
      have r27 : H p27 = none := SH.fr h27
      have S27 := same_new h27 (.lst ((cwi ++ (([","] : List Str)) : List Str).map V.str ++ ((([nk, "="] : List Str) ++ tk.wds) : List Str).map V.str))
      have l27 : (upd X26 p27 (.lst ((cwi ++ (([","] : List Str)) : List Str).map V.str ++ ((([nk, "="] : List Str) ++ tk.wds) : List Str).map V.str))) p27 = some (.lst ((cwi ++ (([","] : List Str)) ++ (([nk, "="] : List Str) ++ tk.wds) : List Str).map V.str)) := by simp only [upd_same, List.map_append]
      have SG := SG.trans S27
      have SH := SH.trans S27
      have g := g.trans S27
      have hx := S27.tupS hx
      have l23 := S27 _ _ l23
      have l26 := S27 _ _ l26
      clear h27 l26 l23
      generalize upd X26 p27 (.lst ((cwi ++ (([","] : List Str)) : List Str).map V.str ++ ((([nk, "="] : List Str) ++ tk.wds) : List Str).map V.str)) = X27 at *
      walk_at "rd"
      exact ⟨p27, _, _, rfl, g, by rw [ek, l27]; simp⟩
    · rintro σ X ⟨F, s4, s5, rfl, g, lf⟩
      have SG := SG.trans g
      have SH := SH.trans g
      clear hx
      have hF : X F = some (.lst ((cw (fw ls ks) : List Str).map V.str)) := by
        rw [lf]
        simp only [List.length_map]
        rw [List.take_of_length_le (by omega), List.take_of_length_le (by omega)]
      clear lf
      have cl : (cw (fw ls ks)).length ≤ 12 * 3701 := by
        have z := fds_len0 (ls := ls) (l := ks) fun t m => (kd t m).2.2.2
        have z3 := Nat.mul_le_mul_right 3701 (show ks.length ≤ 12 by omega)
        omega
      have ef : (T.node (.record ls) ks).wds = (("{" : Str) :: (cw (fw ls ks)).drop 1) ++ [("}" : Str)] := by
        rw [← flds_map, cw_sepd]
        simp [T.wds, T.toks, Hd.toks, wd]
      generalize cw (fw ls ks) = cwi at *
      walk_at "rd"
      intro p71 h71
      have S71 := same_new h71 (.lst [V.str "{"])
      have l71 : (upd X p71 (.lst [V.str "{"])) p71 = some (.lst (((["{"] : List Str) : List Str).map V.str)) := upd_same
      have SG := SG.trans S71
      have SH := SH.trans S71
      have hF := S71 _ _ hF
      clear h71
      generalize upd X p71 (.lst [V.str "{"]) = X71 at *
      walk_at "rd"
      refine ⟨F, _, rfl, SqL.of hF, ?_⟩
      rw [cut_one, ← List.map_drop]
      intro p81 h81
      have S81 := same_new h81 (.lst ((cwi.drop 1 : List Str).map V.str))
      have l81 := @upd_same X71 p81 (.lst ((cwi.drop 1 : List Str).map V.str))
      have SG := SG.trans S81
      have SH := SH.trans S81
      have hF := S81 _ _ hF
      have l71 := S81 _ _ l71
      clear h81
      generalize upd X71 p81 (.lst ((cwi.drop 1 : List Str).map V.str)) = X81 at *
      have cl2 : (cwi.drop 1).length ≤ 12 * 3701 := by rw [List.length_drop]; omega
      walk_at "rd"
      refine ⟨p71, p81, _, _, rfl, rfl, l71, l81, by simp only [List.length_map, List.length_append, List.length_cons, List.length_nil]; rw [sizeLine_eq]; omega, fun p83 h83 => ?_⟩
      have r83 : H p83 = none := SH.fr h83
      have S83 := same_new h83 (.lst (((["{"] : List Str) : List Str).map V.str ++ ((cwi.drop 1) : List Str).map V.str))
      have l83 : (upd X81 p83 (.lst (((["{"] : List Str) : List Str).map V.str ++ ((cwi.drop 1) : List Str).map V.str))) p83 = some (.lst (((["{"] : List Str) ++ (cwi.drop 1) : List Str).map V.str)) := by simp only [upd_same, List.map_append]
      have SG := SG.trans S83
      have SH := SH.trans S83
      have hF := S83 _ _ hF
      have l71 := S83 _ _ l71
      have l81 := S83 _ _ l81
      clear h83 l71 l81
      generalize upd X81 p83 (.lst (((["{"] : List Str) : List Str).map V.str ++ ((cwi.drop 1) : List Str).map V.str)) = X83 at *
      walk_at "rd"
      intro p84 h84
      have S84 := same_new h84 (.lst [V.str "}"])
      have l84 : (upd X83 p84 (.lst [V.str "}"])) p84 = some (.lst (((["}"] : List Str) : List Str).map V.str)) := upd_same
      have SG := SG.trans S84
      have SH := SH.trans S84
      have hF := S84 _ _ hF
      have l83 := S84 _ _ l83
      clear h84
      generalize upd X83 p84 (.lst [V.str "}"]) = X84 at *
      walk_at "rd"
      refine ⟨p83, p84, _, _, rfl, rfl, l83, l84, by simp only [List.length_map, List.length_append, List.length_cons, List.length_nil]; rw [sizeLine_eq]; omega, fun p85 h85 => ?_⟩
      have r85 : H p85 = none := SH.fr h85
      have S85 := same_new h85 (.lst (((["{"] : List Str) ++ (cwi.drop 1) : List Str).map V.str ++ (((["}"] : List Str)) : List Str).map V.str))
      have l85 : (upd X84 p85 (.lst (((["{"] : List Str) ++ (cwi.drop 1) : List Str).map V.str ++ (((["}"] : List Str)) : List Str).map V.str))) p85 = some (.lst (((["{"] : List Str) ++ (cwi.drop 1) ++ ((["}"] : List Str)) : List Str).map V.str)) := by simp only [upd_same, List.map_append]
      have SG := SG.trans S85
      have SH := SH.trans S85
      have hF := S85 _ _ hF
      have l83 := S85 _ _ l83
      have l84 := S85 _ _ l84
      clear h85 l83 l84
      generalize upd X84 p85 (.lst (((["{"] : List Str) ++ (cwi.drop 1) : List Str).map V.str ++ (((["}"] : List Str)) : List Str).map V.str)) = X85 at *
      walk_at "rd"
      refine q p85 X85 SH r85 ?_
      rw [l85, ef]
      simp
end
end Vt


set_option Elab.async false
set_option linter.all false
set_option maxRecDepth 100000
set_option maxHeartbeats 4000000

namespace Vt
open PySem PySem.Spec PyProof.Rows L2
/-! ### the name that a text refuses, if there is one -/
/-- a class of errors of the program with one field -/
structure ErrC (K : PySem.W.Frag) (mg : Str → Option Value) (x f : Str) (C : Addr) : Prop where
  gl : mg x = some (.ref C)
  xf : XfC K C
  no : PySem.W.findIn K (.ref C) f = some none
  te : PySem.W.exmOne K (.ref C) (.ref C) = some true
def due (t : T) : V := match badsOf t.toks with
  | [] => .non
  | b :: _ => .str b
def spRefused (K : PySem.W.Frag) : Sp := fun vs H Q _ => ∃ (v : V) (t : T), vs = [v] ∧ Tm K H v t ∧ Wt t ∧ t.size ≤ 400 ∧ t.deep ≤ 100 ∧ ∀ H', Same H H' → Q (due t) H'
abbrev s_law_refused : Stmt := topS 79
abbrev N_law_refused : List Str := ["term_here", "found", "e"]
theorem sc_law_refused : FnScope N_law_refused ["term_here"] (defScope s_law_refused) := ⟨rfl, rfl, rfl, by decide +kernel, rfl, by decide +kernel, by decide +kernel⟩
section
variable {P : Program} {w : World} {K : PySem.W.Frag} {mg : Str → Option Value} {base : Heap} {C : Addr}
theorem ok_refused {k : Nat} (S : Stands K mg "_law_refused" s_law_refused ["term_here"]) (EC : ErrC K mg "InvalidName" "name" C) (H_term_text : DefOk P w K mg base (L2.CX P w) k "term_text" ["term"] (spTextAny K C)) :
    DefOk P w K mg base CX0 (k + 1) "_law_refused" ["term_here"] (spRefused K) := by
  obtain ⟨f, fd, F, hm, hb⟩ := S
  obtain ⟨f1, fd1, G1, m1, k1, b1⟩ := H_term_text
  refine ⟨f, fd, ?_, hm, F.kp, hb⟩
  have nd := sc_law_refused.nd
  refine F.ok sc_law_refused (fun vs H Q E h => ?_) (fun cdv A outer s0 H vs Q E hr h => ?_)
  · obtain ⟨v, t, rfl, _⟩ := h
    rfl
  obtain ⟨v, t, rfl, hT, hW, hs, hd, q⟩ := h
  refine ⟨_, pss_cons (ps_set (i := 1) nd rfl (Or.inl rfl) pe_str)
    (pss_cons (ps_try_first (i := 2) (c := .ref C) (tb := fun W => tSeq (tDrop (tCallS (spTextAny K C) (WE W) (tCons (tVar 0) tNil))) (tAsg (tC .non) (gName 1)))
        (ts := fun a cls d => tAsg (tXf a cls d C "name" (tVar 2)) (gName 1)) rfl rfl nd rfl rfl ⟨rfl, by decide, .inl EC.gl⟩
      (fun W pn xe tk _ => pss_cons (ps_expr (by exact (pe_callS G1 hr rfl m1 k1 b1 (fun σ => passAt tk σ) (by exact (pa_cons (pv 0) pa_nil))))) (pss_one (ps_set (i := 1) nd rfl (Or.inl rfl) pe_non)))
      (fun a oe cls d pn hz hf => pss_one (ps_set (i := 1) nd rfl (Or.inl rfl) (by exact (pe_xf EC.xf EC.no hz hf (pv 2))))))
    (pss_one (ps_ret (pv 1)))), ?_⟩
  refine ⟨_, rfl, v, t, rfl, hT, hW, hs, hd, fun e H' S1 => ?_, fun b r e H1 x S1 hx => ⟨EC.te, fun a na => ?_⟩⟩
  · have z := q H' S1
    unfold due at z
    rw [e] at z
    exact ⟨_, rfl, z⟩
  · have S2 := S1.trans (same_new hx (.xd [("name", .str b)]))
    have z := q _ S2
    unfold due at z
    rw [e] at z
    exact ⟨_, rfl, rfl, rfl, x, _, .str b, rfl, upd_same, rfl, ⟨_, rfl, z⟩⟩
end
end Vt


set_option Elab.async false
set_option linter.all false
set_option maxRecDepth 100000
set_option maxHeartbeats 4000000

namespace Vt
open PySem PySem.Spec PyProof.Rows L2
/-! ### terms of which some names are words of texts -/
theorem Wt_iff {h : Hd} {ks : List T} : Wt (.node h ks) ↔ okHd h ks.length ∧ okRec h ks ∧ ∀ t ∈ ks, Wt t :=
  ⟨fun w => ⟨w.hd, w.rc, fun t m => w.kid m⟩, fun ⟨a, b, c⟩ => .mk a b c⟩
/-- a term, and the name that its text refuses -/
def Itm (K : PySem.W.Frag) (X : Hp) (v : V) : Prop := ∃ (b : Addr) (u : V) (t : T), v = .ref b ∧ SqT K X b [u, due t] ∧ Tm K X u t ∧ Wt t ∧ t.size ≤ 400 ∧ t.deep ≤ 100
theorem Itm.same {K : PySem.W.Frag} {X Y : Hp} {v : V} (s : Same X Y) (h : Itm K X v) : Itm K Y v := by
  obtain ⟨b, u, t, e, h1, h2, h3⟩ := h
  exact ⟨b, u, t, e, s.tupS h1, h2.same s, h3⟩
theorem rec1 {K : PySem.W.Frag} {X : Hp} {a l b : Addr} {n : Str} {u : V} {t : T} (h : SqT K X a [.str "record", .ref l]) (hl : X l = some (.lst [.ref b])) (hb : X b = some (.tup [.str n, u])) (hu : Tm K X u t) : Tm K X (.ref a) (.node (.record [n]) [t]) :=
  .record (bs := [b]) (us := [u]) h (SqL.of hl) rfl rfl rfl (fun i b' n' u' h1 h2 h3 => by
    match i with
    | 0 => cases h1; cases h2; cases h3; exact SqT.of hb
    | i + 1 => simp at h1) (fun i u' t' h1 h2 => by
    match i with
    | 0 => cases h1; cases h2; exact hu
    | i + 1 => simp at h1)
theorem rec2 {K : PySem.W.Frag} {X : Hp} {a l b c : Addr} {n m : Str} {u v : V} {t r : T} (h : SqT K X a [.str "record", .ref l]) (hl : X l = some (.lst [.ref b, .ref c])) (hb : X b = some (.tup [.str n, u])) (hc : X c = some (.tup [.str m, v])) (hu : Tm K X u t) (hv : Tm K X v r) :
    Tm K X (.ref a) (.node (.record [n, m]) [t, r]) :=
  .record (bs := [b, c]) (us := [u, v]) h (SqL.of hl) rfl rfl rfl (fun i b' n' u' h1 h2 h3 => by
    match i with
    | 0 => cases h1; cases h2; cases h3; exact SqT.of hb
    | 1 => cases h1; cases h2; cases h3; exact SqT.of hc
    | i + 2 => simp at h1) (fun i u' t' h1 h2 => by
    match i with
    | 0 => cases h1; cases h2; exact hu
    | 1 => cases h1; cases h2; exact hv
    | i + 2 => simp at h1)
theorem bad_all : (∀ n ∈ noNames, isName n) ∧ ∀ n ∈ noNames, ("a" : Str).cps.toList < n.cps.toList := by decide +kernel
theorem off_mono {F : Addr} {X Y : Hp} (s : Same X Y) : Same (off F X) (off F Y) := fun b o e => by
  by_cases z : b = F
  · rw [z, off_at] at e; cases e
  · rw [off_ne z] at e ⊢; exact s b o e
theorem rep_one (n : Nat) (v : V) : (List.replicate n [v]).flatten = List.replicate n v := by simp
theorem Al.rep {α β : Type} {R : α → β → Prop} {a : α} {b : β} {n : Nat} (h : R a b) : Al R (List.replicate n a) (List.replicate n b) := ⟨by simp, fun i x y hx hy => by
  rw [List.getElem?_replicate] at hx hy
  split at hx
  · rename_i z
    rw [if_pos z] at hy
    cases hx; cases hy; exact h
  · cases hx⟩
theorem tup_due {one : Str} {k m : Nat} (n1 : isName one) (b1 : one ∈ noNames) (h1 : 1 ≤ k + m) (h5 : k + m ≤ 5) : let t : T := .node .tup (List.replicate k (.node (.var "x") []) ++ [.node (.var one) []] ++ List.replicate m (.node (.var "x") []))
    due t = V.str one ∧ Wt t ∧ t.size ≤ 400 ∧ t.deep ≤ 100 := by
  have nx : isName "x" := by decide +kernel
  have bx : ("x" : Str) ∉ noNames := by decide +kernel
  rcases (by omega : k = 0 ∨ k = 1 ∨ k = 2 ∨ k = 3 ∨ k = 4 ∨ k = 5) with rfl | rfl | rfl | rfl | rfl | rfl <;> rcases (by omega : m = 0 ∨ m = 1 ∨ m = 2 ∨ m = 3 ∨ m = 4 ∨ m = 5) with rfl | rfl | rfl | rfl | rfl | rfl <;> first
    | (exfalso; omega)
    | (refine ⟨by simp [List.replicate, due, badsOf, T.toks, T.tokss, Hd.toks, sepd, wd, nmW, b1, bx], by simp [List.replicate, Wt_iff, okHd, okRec, n1, nx], by simp [List.replicate, T.size, T.sizes], by simp [List.replicate, T.deep, T.deeps]⟩)
theorem app_due : let t : T := .node .app [.node (.var "ofx") [], .node (.fn "inn") [.node (.var "lets") []]]
    Wt t ∧ t.size ≤ 400 ∧ t.deep ≤ 100 ∧ due t = V.non := by
  have n1 : isName "ofx" := by decide +kernel
  have n2 : isName "inn" := by decide +kernel
  have n3 : isName "lets" := by decide +kernel
  have b1 : ("ofx" : Str) ∉ noNames := by decide +kernel
  have b2 : ("inn" : Str) ∉ noNames := by decide +kernel
  have b3 : ("lets" : Str) ∉ noNames := by decide +kernel
  exact ⟨by simp [Wt_iff, okHd, okRec, n1, n2, n3], by simp [T.size, T.sizes], by simp [T.deep, T.deeps], by simp [due, badsOf, T.toks, T.tokss, Hd.toks, wd, nmW, b1, b2, b3]⟩
/-- one more term: a tuple with one name among others that are right -/
theorem turn_ok {K : PySem.W.Frag} {low F : Addr} {one : Str} {i m : Nat} {a b : Int} {x0 x1 x3 x8 x9 : Option V} {X X0 : Hp} {vs : List V} {D : Ends} (ha : a = (i : Nat)) (hb : b = (m : Nat)) (n1 : isName one) (b1 : one ∈ noNames) (m1 : 1 ≤ i + m) (m2 : i + m ≤ 5) (tlow : Tm K (off F X0) (.ref low) (.node (.var "x") []))
    (g1 : X F = some (.lst vs)) (g2 : vs.length ≤ 300) (g3 : Same (off F X0) (off F X)) (g4 : ∀ v ∈ vs, Itm K (off F X) v)
    (hD : ∀ (vs' : List V) (X' : Hp), X' F = some (.lst vs') → vs'.length = vs.length + 1 → Same (off F X0) (off F X') → (∀ v ∈ vs', Itm K (off F X') v) → D.nx [x0, x1, some (.str one), x3, some (.ref low), some (.ref F), some (.int a), some (.int b), x8, x9] X') :
    tDrop (tBM K "list" rAppend (tVar 5) (tCons (tTup (tCons (tTup (tCons (tC (V.str "tuple")) (tCons (tOp rCat (tOp rCat (tOp rRep (tLst (tCons (tVar 4) tNil)) (tVar 6)) (tLst (tCons (tTup (tCons (tC (V.str "var")) (tCons (tVar 2) tNil))) tNil))) (tOp rRep (tLst (tCons (tVar 4) tNil)) (tVar 7))) tNil))) (tCons (tVar 2) tNil))) tNil))
      D [x0, x1, some (.str one), x3, some (.ref low), some (.ref F), some (.int a), some (.int b), x8, x9] X := by
  have tl := tlow.same g3
  refine ⟨_, rfl, ?_⟩
  refine ⟨.inl ⟨rfl, _, SqL.of g1⟩, ?_⟩
  walk_at "rd"
  have ea : a.toNat = i := by omega
  have eb : b.toNat = m := by omega
  intro p1 h1
  have S1 := same_new h1 (.lst [V.ref low])
  have O1 := off_mono (F := F) S1
  have n1 : p1 ≠ F := fun z => by rw [z, g1] at h1; cases h1
  have l1 : off F (upd X p1 (.lst [V.ref low])) p1 = some (.lst [V.ref low]) := by rw [off_ne n1]; exact upd_same
  have g1 := S1 _ _ g1
  have g3 := Same.trans g3 O1
  have g4 := fun v m => Itm.same O1 (g4 v m)
  have tl := Tm.same O1 tl
  clear h1 S1 O1 n1
  generalize upd X p1 (.lst [V.ref low]) = X1 at *
  walk_at "rd"
  refine ⟨p1, a, _, rfl, rfl, off_same _ _ l1, by omega, by omega, sz (by simp; omega), fun p2 h2 => ?_⟩
  have S2 := same_new h2 (.lst (List.replicate a.toNat [V.ref low]).flatten)
  have O2 := off_mono (F := F) S2
  have n2 : p2 ≠ F := fun z => by rw [z, g1] at h2; cases h2
  have l2 : off F (upd X1 p2 (.lst (List.replicate a.toNat [V.ref low]).flatten)) p2 = some (.lst (List.replicate a.toNat [V.ref low]).flatten) := by rw [off_ne n2]; exact upd_same
  have g1 := S2 _ _ g1
  have g3 := Same.trans g3 O2
  have g4 := fun v m => Itm.same O2 (g4 v m)
  have tl := Tm.same O2 tl
  have l1 := O2 _ _ l1
  clear h2 S2 O2 n2
  generalize upd X1 p2 (.lst (List.replicate a.toNat [V.ref low]).flatten) = X2 at *
  walk_at "rd"
  intro p3 h3
  have S3 := same_new h3 (.tup [V.str "var", V.str one])
  have O3 := off_mono (F := F) S3
  have n3 : p3 ≠ F := fun z => by rw [z, g1] at h3; cases h3
  have l3 : off F (upd X2 p3 (.tup [V.str "var", V.str one])) p3 = some (.tup [V.str "var", V.str one]) := by rw [off_ne n3]; exact upd_same
  have g1 := S3 _ _ g1
  have g3 := Same.trans g3 O3
  have g4 := fun v m => Itm.same O3 (g4 v m)
  have tl := Tm.same O3 tl
  have l1 := O3 _ _ l1
  have l2 := O3 _ _ l2
  clear h3 S3 O3 n3
  generalize upd X2 p3 (.tup [V.str "var", V.str one]) = X3 at *
  have t3 : Tm K (off F X3) (.ref p3) (.node (.var one) []) := .var (SqT.of l3)
  walk_at "rd"
  intro p4 h4
  have S4 := same_new h4 (.lst [V.ref p3])
  have O4 := off_mono (F := F) S4
  have n4 : p4 ≠ F := fun z => by rw [z, g1] at h4; cases h4
  have l4 : off F (upd X3 p4 (.lst [V.ref p3])) p4 = some (.lst [V.ref p3]) := by rw [off_ne n4]; exact upd_same
  have g1 := S4 _ _ g1
  have g3 := Same.trans g3 O4
  have g4 := fun v m => Itm.same O4 (g4 v m)
  have tl := Tm.same O4 tl
  have l1 := O4 _ _ l1
  have l2 := O4 _ _ l2
  have l3 := O4 _ _ l3
  have t3 := Tm.same O4 t3
  clear h4 S4 O4 n4
  generalize upd X3 p4 (.lst [V.ref p3]) = X4 at *
  walk_at "rd"
  refine ⟨p2, p4, _, _, rfl, rfl, off_same _ _ l2, off_same _ _ l4, sz (by simp; omega), fun p5 h5 => ?_⟩
  have S5 := same_new h5 (.lst ((List.replicate a.toNat [V.ref low]).flatten ++ [V.ref p3]))
  have O5 := off_mono (F := F) S5
  have n5 : p5 ≠ F := fun z => by rw [z, g1] at h5; cases h5
  have l5 : off F (upd X4 p5 (.lst ((List.replicate a.toNat [V.ref low]).flatten ++ [V.ref p3]))) p5 = some (.lst ((List.replicate a.toNat [V.ref low]).flatten ++ [V.ref p3])) := by rw [off_ne n5]; exact upd_same
  have g1 := S5 _ _ g1
  have g3 := Same.trans g3 O5
  have g4 := fun v m => Itm.same O5 (g4 v m)
  have tl := Tm.same O5 tl
  have l1 := O5 _ _ l1
  have l2 := O5 _ _ l2
  have l3 := O5 _ _ l3
  have t3 := Tm.same O5 t3
  have l4 := O5 _ _ l4
  clear h5 S5 O5 n5
  generalize upd X4 p5 (.lst ((List.replicate a.toNat [V.ref low]).flatten ++ [V.ref p3])) = X5 at *
  walk_at "rd"
  intro p6 h6
  have S6 := same_new h6 (.lst [V.ref low])
  have O6 := off_mono (F := F) S6
  have n6 : p6 ≠ F := fun z => by rw [z, g1] at h6; cases h6
  have l6 : off F (upd X5 p6 (.lst [V.ref low])) p6 = some (.lst [V.ref low]) := by rw [off_ne n6]; exact upd_same
  have g1 := S6 _ _ g1
  have g3 := Same.trans g3 O6
  have g4 := fun v m => Itm.same O6 (g4 v m)
  have tl := Tm.same O6 tl
  have l1 := O6 _ _ l1
  have l2 := O6 _ _ l2
  have l3 := O6 _ _ l3
  have t3 := Tm.same O6 t3
  have l4 := O6 _ _ l4
  have l5 := O6 _ _ l5
  clear h6 S6 O6 n6
  generalize upd X5 p6 (.lst [V.ref low]) = X6 at *
  walk_at "rd"
  refine ⟨p6, b, _, rfl, rfl, off_same _ _ l6, by omega, by omega, sz (by simp; omega), fun p7 h7 => ?_⟩
  have S7 := same_new h7 (.lst (List.replicate b.toNat [V.ref low]).flatten)
  have O7 := off_mono (F := F) S7
  have n7 : p7 ≠ F := fun z => by rw [z, g1] at h7; cases h7
  have l7 : off F (upd X6 p7 (.lst (List.replicate b.toNat [V.ref low]).flatten)) p7 = some (.lst (List.replicate b.toNat [V.ref low]).flatten) := by rw [off_ne n7]; exact upd_same
  have g1 := S7 _ _ g1
  have g3 := Same.trans g3 O7
  have g4 := fun v m => Itm.same O7 (g4 v m)
  have tl := Tm.same O7 tl
  have l1 := O7 _ _ l1
  have l2 := O7 _ _ l2
  have l3 := O7 _ _ l3
  have t3 := Tm.same O7 t3
  have l4 := O7 _ _ l4
  have l5 := O7 _ _ l5
  have l6 := O7 _ _ l6
  clear h7 S7 O7 n7
  generalize upd X6 p7 (.lst (List.replicate b.toNat [V.ref low]).flatten) = X7 at *
  walk_at "rd"
  refine ⟨p5, p7, _, _, rfl, rfl, off_same _ _ l5, off_same _ _ l7, sz (by simp; omega), fun p8 h8 => ?_⟩
  have S8 := same_new h8 (.lst (((List.replicate a.toNat [V.ref low]).flatten ++ [V.ref p3]) ++ (List.replicate b.toNat [V.ref low]).flatten))
  have O8 := off_mono (F := F) S8
  have n8 : p8 ≠ F := fun z => by rw [z, g1] at h8; cases h8
  have l8 : off F (upd X7 p8 (.lst (((List.replicate a.toNat [V.ref low]).flatten ++ [V.ref p3]) ++ (List.replicate b.toNat [V.ref low]).flatten))) p8 = some (.lst (((List.replicate a.toNat [V.ref low]).flatten ++ [V.ref p3]) ++ (List.replicate b.toNat [V.ref low]).flatten)) := by rw [off_ne n8]; exact upd_same
  have g1 := S8 _ _ g1
  have g3 := Same.trans g3 O8
  have g4 := fun v m => Itm.same O8 (g4 v m)
  have tl := Tm.same O8 tl
  have l1 := O8 _ _ l1
  have l2 := O8 _ _ l2
  have l3 := O8 _ _ l3
  have t3 := Tm.same O8 t3
  have l4 := O8 _ _ l4
  have l5 := O8 _ _ l5
  have l6 := O8 _ _ l6
  have l7 := O8 _ _ l7
  clear h8 S8 O8 n8
  generalize upd X7 p8 (.lst (((List.replicate a.toNat [V.ref low]).flatten ++ [V.ref p3]) ++ (List.replicate b.toNat [V.ref low]).flatten)) = X8 at *
  walk_at "rd"
  intro p9 h9
  have S9 := same_new h9 (.tup [V.str "tuple", V.ref p8])
  have O9 := off_mono (F := F) S9
  have n9 : p9 ≠ F := fun z => by rw [z, g1] at h9; cases h9
  have l9 : off F (upd X8 p9 (.tup [V.str "tuple", V.ref p8])) p9 = some (.tup [V.str "tuple", V.ref p8]) := by rw [off_ne n9]; exact upd_same
  have g1 := S9 _ _ g1
  have g3 := Same.trans g3 O9
  have g4 := fun v m => Itm.same O9 (g4 v m)
  have tl := Tm.same O9 tl
  have l1 := O9 _ _ l1
  have l2 := O9 _ _ l2
  have l3 := O9 _ _ l3
  have t3 := Tm.same O9 t3
  have l4 := O9 _ _ l4
  have l5 := O9 _ _ l5
  have l6 := O9 _ _ l6
  have l7 := O9 _ _ l7
  have l8 := O9 _ _ l8
  clear h9 S9 O9 n9
  generalize upd X8 p9 (.tup [V.str "tuple", V.ref p8]) = X9 at *
  have al : Al (Tm K (off F X9)) (((List.replicate a.toNat [V.ref low]).flatten ++ [V.ref p3]) ++ (List.replicate b.toNat [V.ref low]).flatten) (List.replicate i (.node (.var "x") []) ++ [.node (.var one) []] ++ List.replicate m (.node (.var "x") [])) := by
    rw [rep_one, rep_one, ea, eb]
    exact ((Al.rep tl).app (Al.cons t3 Al.nil)).app (Al.rep tl)
  have t9 : Tm K (off F X9) (.ref p9) (.node .tup (List.replicate i (.node (.var "x") []) ++ [.node (.var one) []] ++ List.replicate m (.node (.var "x") []))) := .tup (SqT.of l9) (SqL.of l8) al.1 al.2
  clear al
  walk_at "rd"
  intro p10 h10
  have S10 := same_new h10 (.tup [V.ref p9, V.str one])
  have O10 := off_mono (F := F) S10
  have n10 : p10 ≠ F := fun z => by rw [z, g1] at h10; cases h10
  have l10 : off F (upd X9 p10 (.tup [V.ref p9, V.str one])) p10 = some (.tup [V.ref p9, V.str one]) := by rw [off_ne n10]; exact upd_same
  have g1 := S10 _ _ g1
  have g3 := Same.trans g3 O10
  have g4 := fun v m => Itm.same O10 (g4 v m)
  have tl := Tm.same O10 tl
  have l1 := O10 _ _ l1
  have l2 := O10 _ _ l2
  have l3 := O10 _ _ l3
  have t3 := Tm.same O10 t3
  have l4 := O10 _ _ l4
  have l5 := O10 _ _ l5
  have l6 := O10 _ _ l6
  have l7 := O10 _ _ l7
  have l8 := O10 _ _ l8
  have l9 := O10 _ _ l9
  have t9 := Tm.same O10 t9
  clear h10 S10 O10 n10
  generalize upd X9 p10 (.tup [V.ref p9, V.str one]) = X10 at *
  obtain ⟨d1, d2, d3, d4⟩ := tup_due (k := i) (m := m) n1 b1 m1 m2
  have it : Itm K (off F X10) (.ref p10) := ⟨p10, _, _, rfl, by rw [d1]; exact SqT.of l10, t9, d2, d3, d4⟩
  walk_at "rd"
  refine ⟨F, _, _, rfl, rfl, g1, small1000 (by omega), ?_⟩
  have eo : off F (upd X10 F (.lst (vs ++ [V.ref p10]))) = off F X10 := by
    funext b'
    unfold off
    split
    · rfl
    · rename_i nb; exact upd_ne nb
  refine hD (vs ++ [V.ref p10]) _ upd_same (by simp) (by rw [eo]; exact g3) fun v mv => ?_
  rw [eo]
  rcases List.mem_append.mp mv with mv | mv
  · exact g4 v mv
  · rw [List.mem_singleton.mp mv]; exact it
end Vt


set_option Elab.async false
set_option linter.all false
set_option maxRecDepth 100000
set_option maxHeartbeats 8000000

namespace Vt
open PySem PySem.Spec PyProof.Rows L2
def spNamesRight : Sp := fun vs H Q _ => ∃ s : Addr, vs = [.ref s] ∧ Src H s ∧ ∀ H' : Hp, Keep s H H' → Src H' s → Q (.bl true) H'
abbrev s_law_names_right : Stmt := topS 80
abbrev N_law_names_right : List Str := ["source", "words", "one", "two", "low", "some", "k", "many", "term_here", "due"]
theorem sc_law_names_right : FnScope N_law_names_right ["source"] (defScope s_law_names_right) := ⟨rfl, rfl, rfl, by decide +kernel, rfl, by decide +kernel, by decide +kernel⟩
section
variable {P : Program} {w : World} {K : PySem.W.Frag} {mg : Str → Option Value} {base : Heap}
theorem ok_names_right (S : Stands K mg "_law_names_right" s_law_names_right ["source"]) (Z : Blt mg) (z_max : mg "max" = none) (H_law_one : DefOk P w K mg base CX0 2 "_law_one" ["source", "some"] (spOne K)) (H_check_term : DefOk P w K mg base CX0 20 "check_term" ["value"] (spChecked K))
    (H_law_refused : DefOk P w K mg base CX0 20 "_law_refused" ["term_here"] (spRefused K)) : DefOk P w K mg base CX0 24 "_law_names_right" ["source"] spNamesRight := by
  have z_range := Z.range
  obtain ⟨f, fd, F, hm, hb⟩ := S
  obtain ⟨f_law_one, fd_law_one, G_law_one, m_law_one, k_law_one, b_law_one⟩ := H_law_one
  obtain ⟨f_check_term, fd_check_term, G_check_term, m_check_term, k_check_term, b_check_term⟩ := H_check_term
  obtain ⟨f_law_refused, fd_law_refused, G_law_refused, m_law_refused, k_law_refused, b_law_refused⟩ := H_law_refused
  refine ⟨f, fd, ?_, hm, F.kp, hb⟩
  have nd := sc_law_names_right.nd
  refine F.ok sc_law_names_right (fun vs H Q E h => ?_) (fun cdv A outer s0 H vs Q E hr h => ?_)
  · obtain ⟨s, rfl, _⟩ := h
    rfl
  obtain ⟨s, rfl, hs, q⟩ := h
  refine ⟨_, (pss_cons (ps_set (i := 1) nd rfl (Or.inl rfl) (pe_lst (pa_cons pe_str (pa_cons pe_str (pa_cons pe_str (pa_cons pe_str (pa_cons pe_str (pa_cons pe_str (pa_cons pe_str (pa_cons pe_str (pa_cons pe_str (pa_cons pe_str (pa_cons pe_str pa_nil)))))))))))))
      (pss_cons (ps_par (i := 2) (j := 3) (by rfl) nd rfl rfl (by decide) rfl rfl (pa_cons (pe_call G_law_one (hr.mono (by omega)) rfl m_law_one k_law_one b_law_one .nil pass0 (pa_cons (pv 0) (pa_cons (pv 1) pa_nil))) (pa_cons (pe_call G_law_one (hr.mono (by omega)) rfl m_law_one k_law_one b_law_one .nil pass0 (pa_cons (pv 0) (pa_cons (pv 1) pa_nil))) pa_nil)) (by rfl))
      (pss_cons (ps_set (i := 4) nd rfl (Or.inl rfl) (pe_tup (pa_cons pe_str (pa_cons pe_str pa_nil))))
      (pss_cons (ps_set (i := 5) nd rfl (Or.inl rfl) (pe_lst (pa_cons (pe_tup (pa_cons (pe_tup (pa_cons pe_str (pa_cons (pv 2) pa_nil))) (pa_cons (pv 2) pa_nil))) (pa_cons (pe_tup (pa_cons (pe_tup (pa_cons pe_str (pa_cons (pv 2) (pa_cons (pe_tup (pa_cons pe_str (pa_cons (pv 3) pa_nil))) pa_nil)))) (pa_cons (pv 2) pa_nil))) (pa_cons (pe_tup (pa_cons (pe_tup (pa_cons pe_str (pa_cons (pv 4) (pa_cons (pe_tup (pa_cons pe_str (pa_cons (pv 3) pa_nil))) pa_nil)))) (pa_cons (pv 3) pa_nil))) pa_nil)))))
      (pss_cons (ps_set (i := 5) nd rfl (Or.inl rfl) (pe_op op_cat (pv 5) (pe_lst (pa_cons (pe_tup (pa_cons (pe_tup (pa_cons pe_str (pa_cons pe_str (pa_cons (pe_tup (pa_cons pe_str (pa_cons (pv 3) pa_nil))) (pa_cons (pe_tup (pa_cons pe_str (pa_cons (pv 2) pa_nil))) pa_nil))))) (pa_cons (pv 3) pa_nil))) (pa_cons (pe_tup (pa_cons (pe_tup (pa_cons pe_str (pa_cons (pv 2) (pa_cons (pe_tup (pa_cons pe_str (pa_cons (pv 3) (pa_cons (pv 4) pa_nil)))) (pa_cons (pv 4) pa_nil))))) (pa_cons (pv 2) pa_nil))) pa_nil)))))
      (pss_cons (ps_set (i := 5) nd rfl (Or.inl rfl) (pe_op op_cat (pv 5) (pe_lst (pa_cons (pe_tup (pa_cons (pe_tup (pa_cons pe_str (pa_cons (pe_lst (pa_cons (pe_tup (pa_cons pe_str (pa_cons (pe_tup (pa_cons pe_str (pa_cons (pv 3) pa_nil))) pa_nil))) (pa_cons (pe_tup (pa_cons (pv 2) (pa_cons (pv 4) pa_nil))) pa_nil))) pa_nil))) (pa_cons (pe_ifExp (pt_cmpR op_gt_str (pv 2) pe_str (nomark _)) (pv 3) pe_non) pa_nil))) pa_nil))))
      (pss_cons (ps_set (i := 5) nd rfl (Or.inl rfl) (pe_op op_cat (pv 5) (pe_lst (pa_cons (pe_tup (pa_cons (pe_tup (pa_cons pe_str (pa_cons (pe_lst (pa_cons (pe_tup (pa_cons (pv 2) (pa_cons (pe_tup (pa_cons pe_str (pa_cons (pv 3) pa_nil))) pa_nil))) pa_nil)) pa_nil))) (pa_cons (pv 2) pa_nil))) (pa_cons (pe_tup (pa_cons (pe_tup (pa_cons pe_str (pa_cons (pe_tup (pa_cons pe_str (pa_cons (pv 3) pa_nil))) (pa_cons (pv 2) pa_nil)))) (pa_cons (pv 3) pa_nil))) pa_nil)))))
      (pss_cons (ps_set (i := 5) nd rfl (Or.inl rfl) (pe_op op_cat (pv 5) (pe_lst (pa_cons (pe_tup (pa_cons (pe_tup (pa_cons pe_str (pa_cons (pv 4) (pa_cons (pv 2) (pa_cons (pe_tup (pa_cons pe_str (pa_cons (pv 3) pa_nil))) pa_nil))))) (pa_cons (pv 2) pa_nil))) (pa_cons (pe_tup (pa_cons (pe_tup (pa_cons pe_str (pa_cons (pe_tup (pa_cons pe_str (pa_cons (pv 3) pa_nil))) (pa_cons (pv 2) (pa_cons (pv 4) pa_nil))))) (pa_cons (pv 3) pa_nil))) pa_nil)))))
      (pss_cons (ps_set (i := 5) nd rfl (Or.inl rfl) (pe_op op_cat (pv 5) (pe_lst (pa_cons (pe_tup (pa_cons (pe_tup (pa_cons pe_str (pa_cons (pv 4) (pa_cons (pv 2) pa_nil)))) (pa_cons (pv 2) pa_nil))) (pa_cons (pe_tup (pa_cons (pe_tup (pa_cons pe_str (pa_cons pe_int (pa_cons pe_int (pa_cons (pe_tup (pa_cons pe_str (pa_cons (pv 2) pa_nil))) pa_nil))))) (pa_cons (pv 2) pa_nil))) pa_nil)))))
      (pss_cons (ps_set (i := 5) nd rfl (Or.inl rfl) (pe_op op_cat (pv 5) (pe_lst (pa_cons (pe_tup (pa_cons (pe_tup (pa_cons pe_str (pa_cons (pv 4) (pa_cons (pe_tup (pa_cons pe_str (pa_cons (pv 3) pa_nil))) (pa_cons (pv 4) pa_nil))))) (pa_cons (pv 3) pa_nil))) (pa_cons (pe_tup (pa_cons (pe_tup (pa_cons pe_str (pa_cons (pe_tup (pa_cons pe_str (pa_cons (pv 2) pa_nil))) (pa_cons (pv 4) (pa_cons (pv 4) pa_nil))))) (pa_cons (pv 2) pa_nil))) pa_nil)))))
      (pss_cons (ps_set (i := 5) nd rfl (Or.inl rfl) (pe_op op_cat (pv 5) (pe_lst (pa_cons (pe_tup (pa_cons (pe_tup (pa_cons pe_str (pa_cons (pv 4) (pa_cons (pv 4) (pa_cons (pe_tup (pa_cons pe_str (pa_cons (pv 2) pa_nil))) pa_nil))))) (pa_cons (pv 2) pa_nil))) (pa_cons (pe_tup (pa_cons (pe_tup (pa_cons pe_str (pa_cons pe_str (pa_cons (pv 4) (pa_cons (pe_tup (pa_cons pe_str (pa_cons (pv 2) pa_nil))) pa_nil))))) (pa_cons (pv 2) pa_nil))) pa_nil)))))
      (pss_cons (ps_set (i := 5) nd rfl (Or.inl rfl) (pe_op op_cat (pv 5) (pe_lst (pa_cons (pe_tup (pa_cons (pe_tup (pa_cons pe_str (pa_cons pe_str (pa_cons (pe_tup (pa_cons pe_str (pa_cons pe_str (pa_cons (pv 4) pa_nil)))) (pa_cons (pe_tup (pa_cons pe_str (pa_cons (pv 2) pa_nil))) pa_nil))))) (pa_cons (pv 2) pa_nil))) pa_nil))))
      (pss_cons (ps_set (i := 5) nd rfl (Or.inl rfl) (pe_op op_cat (pv 5) (pe_lst (pa_cons (pe_tup (pa_cons (pe_tup (pa_cons pe_str (pa_cons pe_str (pa_cons (pe_tup (pa_cons pe_str (pa_cons pe_str (pa_cons (pe_tup (pa_cons pe_str (pa_cons (pv 2) pa_nil))) pa_nil)))) (pa_cons (pv 4) pa_nil))))) (pa_cons (pv 2) pa_nil))) pa_nil))))
      (pss_cons (ps_for PassesOwn.never rfl (pi_range1 (by rfl) z_range (pa_cons pe_int pa_nil)) (pg_name (i := 6) nd rfl (Or.inl rfl)) (pss_one (ps_for PassesOwn.never rfl (pi_range2 (by rfl) z_range (pa_cons (pe_callB (call_max2 rfl) (by rfl) z_max (by decide +kernel) (pa_cons pe_int (pa_cons (pe_op op_sub pe_int (pv 6)) pa_nil))) (pa_cons (pe_op op_sub pe_int (pv 6)) pa_nil))) (pg_name (i := 7) nd rfl (Or.inl rfl)) (pss_one (ps_expr (pe_bm PySem.F.plainAttrs_list PySem.F.slot_list_append PySem.F.type_list_append mt_append (pv 5) (pa_cons (pe_tup (pa_cons (pe_tup (pa_cons pe_str (pa_cons (pe_op op_cat (pe_op op_cat (pe_op op_rep (pe_lst (pa_cons (pv 4) pa_nil)) (pv 6)) (pe_lst (pa_cons (pe_tup (pa_cons pe_str (pa_cons (pv 2) pa_nil))) pa_nil))) (pe_op op_rep (pe_lst (pa_cons (pv 4) pa_nil)) (pv 7))) pa_nil))) (pa_cons (pv 2) pa_nil))) pa_nil)))))))
      (pss_cons (ps_for PassesOwn.never rfl (pi_list (pv 5)) (pg_tup rfl (pgs_cons (pg_name (i := 8) nd rfl (Or.inl rfl)) (pgs_cons (pg_name (i := 9) nd rfl (Or.inl rfl)) pgs_nil))) (pss_cons (ps_expr (pe_call G_check_term (hr.mono (by omega)) rfl m_check_term k_check_term b_check_term .nil pass0 (pa_cons (pv 8) pa_nil)))
      (pss_one (ps_if (pt_cmpR op_ne (pe_call G_law_refused (hr.mono (by omega)) rfl m_law_refused k_law_refused b_law_refused .nil pass0 (pa_cons (pv 8) pa_nil)) (pv 9) (nomark _)) (pss_one (ps_ret pe_bl)) pss_nil))))
      (pss_one (ps_ret (pe_cmpR op_isN (pe_call G_law_refused (hr.mono (by omega)) rfl m_law_refused k_law_refused b_law_refused .nil pass0 (pa_cons (pe_tup (pa_cons pe_str (pa_cons (pe_tup (pa_cons pe_str (pa_cons pe_str pa_nil))) (pa_cons (pe_tup (pa_cons pe_str (pa_cons pe_str (pa_cons (pe_tup (pa_cons pe_str (pa_cons pe_str pa_nil))) pa_nil)))) pa_nil)))) pa_nil)) pe_non (nomark _))))))))))))))))))), ?_⟩
  walk_at "rd"
  intro pw hw
  have Sw := same_new hw (.lst (noNames.map V.str))
  have lw := @upd_same H pw (.lst (noNames.map V.str))
  have cw0 := hs.same Sw
  have kw := Sw.keep (s := s)
  show gName 1 (V.ref pw) _ (upd H pw (.lst (noNames.map V.str))) _
  clear hw Sw
  generalize upd H pw (.lst (noNames.map V.str)) = Hw at *
  walk_at "rd"
  refine ⟨s, pw, noNames.map V.str, rfl, cw0, SqL.of lw, no3_strs noNames, by decide, by decide, fun v1 H1 hv1 k1 c1 => ?_⟩
  have lw1 := k1.list cw0 (no3_strs noNames) lw
  obtain ⟨one, b1, rfl⟩ := List.mem_map.mp hv1
  walk_at "rd"
  refine ⟨s, pw, noNames.map V.str, rfl, c1, SqL.of lw1, no3_strs noNames, by decide, by decide, fun v2 H2 hv2 k2 c2 => ?_⟩
  obtain ⟨two, b2, rfl⟩ := List.mem_map.mp hv2
  have kA := (kw.trans k1).trans k2
  clear kw k1 k2 hv1 hv2 lw lw1 cw0 c1
  have n1 := bad_all.1 one b1
  have n2 := bad_all.1 two b2
  have a1 := bad_all.2 one b1
  have a1' : strLt "a" one := a1
  have nx : isName "x" := by decide +kernel
  have na : isName "a" := by decide +kernel
  have nf : isName "f" := by decide +kernel
  have bx : ("x" : Str) ∉ noNames := by decide +kernel
  have ba : ("a" : Str) ∉ noNames := by decide +kernel
  have bf : ("f" : Str) ∉ noNames := by decide +kernel
  refine ⟨_, _, rfl, ?_⟩
  walk_at "rd"
  intro p1 h1
  have S1 := same_new h1 (.tup [V.str "var", V.str "x"])
  have l1 := @upd_same H2 p1 (.tup [V.str "var", V.str "x"])
  clear h1
  generalize upd H2 p1 (.tup [V.str "var", V.str "x"]) = X1 at *
  have tlow : Tm K X1 (.ref p1) (.node (.var "x") []) := .var (SqT.of l1)
  have S0 : Same H2 X1 := S1
  clear l1
  generalize p1 = low at *
  walk_at "rd"
  intro p2 h2
  have S2 := same_new h2 (.tup [V.str "var", V.str one])
  have l2 := @upd_same X1 p2 (.tup [V.str "var", V.str one])
  have tlow := Tm.same S2 tlow
  have S0 := Same.trans S0 S2
  clear h2
  generalize upd X1 p2 (.tup [V.str "var", V.str one]) = X2 at *
  have t2 : Tm K X2 (.ref p2) (.node (.var one) []) := .var (SqT.of l2)
  walk_at "rd"
  intro p3 h3
  have S3 := same_new h3 (.tup [V.ref p2, V.str one])
  have l3 := @upd_same X2 p3 (.tup [V.ref p2, V.str one])
  have tlow := Tm.same S3 tlow
  have S0 := Same.trans S0 S3
  have l2 := S3 _ _ l2
  have t2 := Tm.same S3 t2
  clear h3
  generalize upd X2 p3 (.tup [V.ref p2, V.str one]) = X3 at *
  have e3 : due (.node (.var one) []) = V.str one := by simp [due, badsOf, T.toks, T.tokss, Hd.toks, sepd, flds, wd, nmW, b1, b2, bx, ba, bf]
  have w3 : Wt (.node (.var one) []) := by simp [Wt_iff, okHd, okRec, n1, n2, nx, na, nf, a1']
  have i3 : Itm K X3 (.ref p3) := ⟨p3, _, (.node (.var one) []), rfl, by rw [e3]; exact SqT.of l3, t2, w3, by simp [T.size, T.sizes], by simp [T.deep, T.deeps]⟩
  clear e3 w3
  clear l2 t2 l3
  walk_at "rd"
  intro p4 h4
  have S4 := same_new h4 (.tup [V.str "var", V.str two])
  have l4 := @upd_same X3 p4 (.tup [V.str "var", V.str two])
  have tlow := Tm.same S4 tlow
  have S0 := Same.trans S0 S4
  have i3 := Itm.same S4 i3
  clear h4
  generalize upd X3 p4 (.tup [V.str "var", V.str two]) = X4 at *
  have t4 : Tm K X4 (.ref p4) (.node (.var two) []) := .var (SqT.of l4)
  walk_at "rd"
  intro p5 h5
  have S5 := same_new h5 (.tup [V.str "fun", V.str one, V.ref p4])
  have l5 := @upd_same X4 p5 (.tup [V.str "fun", V.str one, V.ref p4])
  have tlow := Tm.same S5 tlow
  have S0 := Same.trans S0 S5
  have i3 := Itm.same S5 i3
  have l4 := S5 _ _ l4
  have t4 := Tm.same S5 t4
  clear h5
  generalize upd X4 p5 (.tup [V.str "fun", V.str one, V.ref p4]) = X5 at *
  have t5 : Tm K X5 (.ref p5) (.node (.fn one) [(.node (.var two) [])]) := .fn (SqT.of l5) t4
  walk_at "rd"
  intro p6 h6
  have S6 := same_new h6 (.tup [V.ref p5, V.str one])
  have l6 := @upd_same X5 p6 (.tup [V.ref p5, V.str one])
  have tlow := Tm.same S6 tlow
  have S0 := Same.trans S0 S6
  have i3 := Itm.same S6 i3
  have l4 := S6 _ _ l4
  have t4 := Tm.same S6 t4
  have l5 := S6 _ _ l5
  have t5 := Tm.same S6 t5
  clear h6
  generalize upd X5 p6 (.tup [V.ref p5, V.str one]) = X6 at *
  have e6 : due (.node (.fn one) [(.node (.var two) [])]) = V.str one := by simp [due, badsOf, T.toks, T.tokss, Hd.toks, sepd, flds, wd, nmW, b1, b2, bx, ba, bf]
  have w6 : Wt (.node (.fn one) [(.node (.var two) [])]) := by simp [Wt_iff, okHd, okRec, n1, n2, nx, na, nf, a1']
  have i6 : Itm K X6 (.ref p6) := ⟨p6, _, (.node (.fn one) [(.node (.var two) [])]), rfl, by rw [e6]; exact SqT.of l6, t5, w6, by simp [T.size, T.sizes], by simp [T.deep, T.deeps]⟩
  clear e6 w6
  clear l4 t4 l5 t5 l6
  walk_at "rd"
  intro p7 h7
  have S7 := same_new h7 (.tup [V.str "var", V.str two])
  have l7 := @upd_same X6 p7 (.tup [V.str "var", V.str two])
  have tlow := Tm.same S7 tlow
  have S0 := Same.trans S0 S7
  have i3 := Itm.same S7 i3
  have i6 := Itm.same S7 i6
  clear h7
  generalize upd X6 p7 (.tup [V.str "var", V.str two]) = X7 at *
  have t7 : Tm K X7 (.ref p7) (.node (.var two) []) := .var (SqT.of l7)
  walk_at "rd"
  intro p8 h8
  have S8 := same_new h8 (.tup [V.str "app", V.ref low, V.ref p7])
  have l8 := @upd_same X7 p8 (.tup [V.str "app", V.ref low, V.ref p7])
  have tlow := Tm.same S8 tlow
  have S0 := Same.trans S0 S8
  have i3 := Itm.same S8 i3
  have i6 := Itm.same S8 i6
  have l7 := S8 _ _ l7
  have t7 := Tm.same S8 t7
  clear h8
  generalize upd X7 p8 (.tup [V.str "app", V.ref low, V.ref p7]) = X8 at *
  have t8 : Tm K X8 (.ref p8) (.node .app [(.node (.var "x") []), (.node (.var two) [])]) := .app (SqT.of l8) tlow t7
  walk_at "rd"
  intro p9 h9
  have S9 := same_new h9 (.tup [V.ref p8, V.str two])
  have l9 := @upd_same X8 p9 (.tup [V.ref p8, V.str two])
  have tlow := Tm.same S9 tlow
  have S0 := Same.trans S0 S9
  have i3 := Itm.same S9 i3
  have i6 := Itm.same S9 i6
  have l7 := S9 _ _ l7
  have t7 := Tm.same S9 t7
  have l8 := S9 _ _ l8
  have t8 := Tm.same S9 t8
  clear h9
  generalize upd X8 p9 (.tup [V.ref p8, V.str two]) = X9 at *
  have e9 : due (.node .app [(.node (.var "x") []), (.node (.var two) [])]) = V.str two := by simp [due, badsOf, T.toks, T.tokss, Hd.toks, sepd, flds, wd, nmW, b1, b2, bx, ba, bf]
  have w9 : Wt (.node .app [(.node (.var "x") []), (.node (.var two) [])]) := by simp [Wt_iff, okHd, okRec, n1, n2, nx, na, nf, a1']
  have i9 : Itm K X9 (.ref p9) := ⟨p9, _, (.node .app [(.node (.var "x") []), (.node (.var two) [])]), rfl, by rw [e9]; exact SqT.of l9, t8, w9, by simp [T.size, T.sizes], by simp [T.deep, T.deeps]⟩
  clear e9 w9
  clear l7 t7 l8 t8 l9
  walk_at "rd"
  intro p10 h10
  have S10 := same_new h10 (.lst [V.ref p3, V.ref p6, V.ref p9])
  have l10 := @upd_same X9 p10 (.lst [V.ref p3, V.ref p6, V.ref p9])
  have tlow := Tm.same S10 tlow
  have S0 := Same.trans S0 S10
  have i3 := Itm.same S10 i3
  have i6 := Itm.same S10 i6
  have i9 := Itm.same S10 i9
  clear h10
  generalize upd X9 p10 (.lst [V.ref p3, V.ref p6, V.ref p9]) = X10 at *
  have a10 : ∀ v ∈ [V.ref p3, V.ref p6, V.ref p9], Itm K X10 v := fun v m => by
    simp only [List.mem_cons, List.not_mem_nil, or_false] at m
    rcases m with rfl | rfl | rfl
    · exact i3
    · exact i6
    · exact i9
  clear i3 i6 i9
  obtain ⟨vs, ev⟩ : ∃ vs, vs = [V.ref p3, V.ref p6, V.ref p9] := ⟨_, rfl⟩
  rw [← ev] at l10 a10
  have len : vs.length = 3 := by rw [ev]; rfl
  clear ev
  walk_at "rd"
  intro p11 h11
  have S11 := same_new h11 (.tup [V.str "var", V.str two])
  have l11 := @upd_same X10 p11 (.tup [V.str "var", V.str two])
  have tlow := Tm.same S11 tlow
  have S0 := Same.trans S0 S11
  have l10 := S11 _ _ l10
  have a10 := fun v m => Itm.same S11 (a10 v m)
  clear h11
  generalize upd X10 p11 (.tup [V.str "var", V.str two]) = X11 at *
  have t11 : Tm K X11 (.ref p11) (.node (.var two) []) := .var (SqT.of l11)
  walk_at "rd"
  intro p12 h12
  have S12 := same_new h12 (.tup [V.str "var", V.str one])
  have l12 := @upd_same X11 p12 (.tup [V.str "var", V.str one])
  have tlow := Tm.same S12 tlow
  have S0 := Same.trans S0 S12
  have l10 := S12 _ _ l10
  have a10 := fun v m => Itm.same S12 (a10 v m)
  have l11 := S12 _ _ l11
  have t11 := Tm.same S12 t11
  clear h12
  generalize upd X11 p12 (.tup [V.str "var", V.str one]) = X12 at *
  have t12 : Tm K X12 (.ref p12) (.node (.var one) []) := .var (SqT.of l12)
  walk_at "rd"
  intro p13 h13
  have S13 := same_new h13 (.tup [V.str "let", V.str "x", V.ref p11, V.ref p12])
  have l13 := @upd_same X12 p13 (.tup [V.str "let", V.str "x", V.ref p11, V.ref p12])
  have tlow := Tm.same S13 tlow
  have S0 := Same.trans S0 S13
  have l10 := S13 _ _ l10
  have a10 := fun v m => Itm.same S13 (a10 v m)
  have l11 := S13 _ _ l11
  have t11 := Tm.same S13 t11
  have l12 := S13 _ _ l12
  have t12 := Tm.same S13 t12
  clear h13
  generalize upd X12 p13 (.tup [V.str "let", V.str "x", V.ref p11, V.ref p12]) = X13 at *
  have t13 : Tm K X13 (.ref p13) (.node (.lt "x") [(.node (.var two) []), (.node (.var one) [])]) := .lt (SqT.of l13) t11 t12
  walk_at "rd"
  intro p14 h14
  have S14 := same_new h14 (.tup [V.ref p13, V.str two])
  have l14 := @upd_same X13 p14 (.tup [V.ref p13, V.str two])
  have tlow := Tm.same S14 tlow
  have S0 := Same.trans S0 S14
  have l10 := S14 _ _ l10
  have a10 := fun v m => Itm.same S14 (a10 v m)
  have l11 := S14 _ _ l11
  have t11 := Tm.same S14 t11
  have l12 := S14 _ _ l12
  have t12 := Tm.same S14 t12
  have l13 := S14 _ _ l13
  have t13 := Tm.same S14 t13
  clear h14
  generalize upd X13 p14 (.tup [V.ref p13, V.str two]) = X14 at *
  have e14 : due (.node (.lt "x") [(.node (.var two) []), (.node (.var one) [])]) = V.str two := by simp [due, badsOf, T.toks, T.tokss, Hd.toks, sepd, flds, wd, nmW, b1, b2, bx, ba, bf]
  have w14 : Wt (.node (.lt "x") [(.node (.var two) []), (.node (.var one) [])]) := by simp [Wt_iff, okHd, okRec, n1, n2, nx, na, nf, a1']
  have i14 : Itm K X14 (.ref p14) := ⟨p14, _, (.node (.lt "x") [(.node (.var two) []), (.node (.var one) [])]), rfl, by rw [e14]; exact SqT.of l14, t13, w14, by simp [T.size, T.sizes], by simp [T.deep, T.deeps]⟩
  clear e14 w14
  clear l11 t11 l12 t12 l13 t13 l14
  walk_at "rd"
  intro p15 h15
  have S15 := same_new h15 (.tup [V.str "fun", V.str two, V.ref low])
  have l15 := @upd_same X14 p15 (.tup [V.str "fun", V.str two, V.ref low])
  have tlow := Tm.same S15 tlow
  have S0 := Same.trans S0 S15
  have l10 := S15 _ _ l10
  have a10 := fun v m => Itm.same S15 (a10 v m)
  have i14 := Itm.same S15 i14
  clear h15
  generalize upd X14 p15 (.tup [V.str "fun", V.str two, V.ref low]) = X15 at *
  have t15 : Tm K X15 (.ref p15) (.node (.fn two) [(.node (.var "x") [])]) := .fn (SqT.of l15) tlow
  walk_at "rd"
  intro p16 h16
  have S16 := same_new h16 (.tup [V.str "rec", V.str one, V.ref p15, V.ref low])
  have l16 := @upd_same X15 p16 (.tup [V.str "rec", V.str one, V.ref p15, V.ref low])
  have tlow := Tm.same S16 tlow
  have S0 := Same.trans S0 S16
  have l10 := S16 _ _ l10
  have a10 := fun v m => Itm.same S16 (a10 v m)
  have i14 := Itm.same S16 i14
  have l15 := S16 _ _ l15
  have t15 := Tm.same S16 t15
  clear h16
  generalize upd X15 p16 (.tup [V.str "rec", V.str one, V.ref p15, V.ref low]) = X16 at *
  have t16 : Tm K X16 (.ref p16) (.node (.rc one) [(.node (.fn two) [(.node (.var "x") [])]), (.node (.var "x") [])]) := .rc (SqT.of l16) t15 tlow
  walk_at "rd"
  intro p17 h17
  have S17 := same_new h17 (.tup [V.ref p16, V.str one])
  have l17 := @upd_same X16 p17 (.tup [V.ref p16, V.str one])
  have tlow := Tm.same S17 tlow
  have S0 := Same.trans S0 S17
  have l10 := S17 _ _ l10
  have a10 := fun v m => Itm.same S17 (a10 v m)
  have i14 := Itm.same S17 i14
  have l15 := S17 _ _ l15
  have t15 := Tm.same S17 t15
  have l16 := S17 _ _ l16
  have t16 := Tm.same S17 t16
  clear h17
  generalize upd X16 p17 (.tup [V.ref p16, V.str one]) = X17 at *
  have e17 : due (.node (.rc one) [(.node (.fn two) [(.node (.var "x") [])]), (.node (.var "x") [])]) = V.str one := by simp [due, badsOf, T.toks, T.tokss, Hd.toks, sepd, flds, wd, nmW, b1, b2, bx, ba, bf]
  have w17 : Wt (.node (.rc one) [(.node (.fn two) [(.node (.var "x") [])]), (.node (.var "x") [])]) := by simp [Wt_iff, okHd, okRec, n1, n2, nx, na, nf, a1']
  have i17 : Itm K X17 (.ref p17) := ⟨p17, _, (.node (.rc one) [(.node (.fn two) [(.node (.var "x") [])]), (.node (.var "x") [])]), rfl, by rw [e17]; exact SqT.of l17, t16, w17, by simp [T.size, T.sizes], by simp [T.deep, T.deeps]⟩
  clear e17 w17
  clear l15 t15 l16 t16 l17
  walk_at "rd"
  intro p18 h18
  have S18 := same_new h18 (.lst [V.ref p14, V.ref p17])
  have l18 := @upd_same X17 p18 (.lst [V.ref p14, V.ref p17])
  have tlow := Tm.same S18 tlow
  have S0 := Same.trans S0 S18
  have l10 := S18 _ _ l10
  have a10 := fun v m => Itm.same S18 (a10 v m)
  have i14 := Itm.same S18 i14
  have i17 := Itm.same S18 i17
  clear h18
  generalize upd X17 p18 (.lst [V.ref p14, V.ref p17]) = X18 at *
  have a18 : ∀ v ∈ [V.ref p14, V.ref p17], Itm K X18 v := fun v m => by
    simp only [List.mem_cons, List.not_mem_nil, or_false] at m
    rcases m with rfl | rfl
    · exact i14
    · exact i17
  clear i14 i17
  walk_at "rd"
  refine ⟨p10, p18, _, _, rfl, rfl, l10, l18, sz (by simp [len]), fun p19 h19 => ?_⟩
  obtain ⟨vs19, ev⟩ : ∃ vs19, vs19 = vs ++ [V.ref p14, V.ref p17] := ⟨_, rfl⟩
  have aa19 : ∀ v ∈ vs19, Itm K X18 v := fun v m => by
    rw [ev] at m
    rcases List.mem_append.mp m with m | m
    · exact a10 v m
    · exact a18 v m
  have len19 : vs19.length = 5 := by rw [ev, List.length_append, len]; rfl
  rw [← ev] at *
  clear ev len
  have len := len19
  clear len19
  clear a10 a18 l10 l18
  have S19 := same_new h19 (.lst vs19)
  have l19 := @upd_same X18 p19 (.lst vs19)
  have tlow := Tm.same S19 tlow
  have S0 := Same.trans S0 S19
  have aa19 := fun v m => Itm.same S19 (aa19 v m)
  have a19 := aa19
  clear aa19 h19
  generalize upd X18 p19 (.lst vs19) = X19 at *
  walk_at "rd"
  intro p20 h20
  have S20 := same_new h20 (.tup [V.str "var", V.str two])
  have l20 := @upd_same X19 p20 (.tup [V.str "var", V.str two])
  have tlow := Tm.same S20 tlow
  have S0 := Same.trans S0 S20
  have l19 := S20 _ _ l19
  have a19 := fun v m => Itm.same S20 (a19 v m)
  clear h20
  generalize upd X19 p20 (.tup [V.str "var", V.str two]) = X20 at *
  have t20 : Tm K X20 (.ref p20) (.node (.var two) []) := .var (SqT.of l20)
  walk_at "rd"
  intro p21 h21
  have S21 := same_new h21 (.tup [V.str "a", V.ref p20])
  have l21 := @upd_same X20 p21 (.tup [V.str "a", V.ref p20])
  have tlow := Tm.same S21 tlow
  have S0 := Same.trans S0 S21
  have l19 := S21 _ _ l19
  have a19 := fun v m => Itm.same S21 (a19 v m)
  have l20 := S21 _ _ l20
  have t20 := Tm.same S21 t20
  clear h21
  generalize upd X20 p21 (.tup [V.str "a", V.ref p20]) = X21 at *
  walk_at "rd"
  intro p22 h22
  have S22 := same_new h22 (.tup [V.str one, V.ref low])
  have l22 := @upd_same X21 p22 (.tup [V.str one, V.ref low])
  have tlow := Tm.same S22 tlow
  have S0 := Same.trans S0 S22
  have l19 := S22 _ _ l19
  have a19 := fun v m => Itm.same S22 (a19 v m)
  have l20 := S22 _ _ l20
  have t20 := Tm.same S22 t20
  have l21 := S22 _ _ l21
  clear h22
  generalize upd X21 p22 (.tup [V.str one, V.ref low]) = X22 at *
  walk_at "rd"
  intro p23 h23
  have S23 := same_new h23 (.lst [V.ref p21, V.ref p22])
  have l23 := @upd_same X22 p23 (.lst [V.ref p21, V.ref p22])
  have tlow := Tm.same S23 tlow
  have S0 := Same.trans S0 S23
  have l19 := S23 _ _ l19
  have a19 := fun v m => Itm.same S23 (a19 v m)
  have l20 := S23 _ _ l20
  have t20 := Tm.same S23 t20
  have l21 := S23 _ _ l21
  have l22 := S23 _ _ l22
  clear h23
  generalize upd X22 p23 (.lst [V.ref p21, V.ref p22]) = X23 at *
  walk_at "rd"
  intro p24 h24
  have S24 := same_new h24 (.tup [V.str "record", V.ref p23])
  have l24 := @upd_same X23 p24 (.tup [V.str "record", V.ref p23])
  have tlow := Tm.same S24 tlow
  have S0 := Same.trans S0 S24
  have l19 := S24 _ _ l19
  have a19 := fun v m => Itm.same S24 (a19 v m)
  have l20 := S24 _ _ l20
  have t20 := Tm.same S24 t20
  have l21 := S24 _ _ l21
  have l22 := S24 _ _ l22
  have l23 := S24 _ _ l23
  clear h24
  generalize upd X23 p24 (.tup [V.str "record", V.ref p23]) = X24 at *
  have t24 : Tm K X24 (.ref p24) (.node (.record ["a", one]) [(.node (.var two) []), (.node (.var "x") [])]) := rec2 (SqT.of l24) l23 l21 l22 t20 tlow
  walk_at "rd"
  refine ifT (decide_eq_true a1) ?_
  walk_at "rd"
  intro p25 h25
  have S25 := same_new h25 (.tup [V.ref p24, V.str two])
  have l25 := @upd_same X24 p25 (.tup [V.ref p24, V.str two])
  have tlow := Tm.same S25 tlow
  have S0 := Same.trans S0 S25
  have l19 := S25 _ _ l19
  have a19 := fun v m => Itm.same S25 (a19 v m)
  have l20 := S25 _ _ l20
  have t20 := Tm.same S25 t20
  have l21 := S25 _ _ l21
  have l22 := S25 _ _ l22
  have l23 := S25 _ _ l23
  have l24 := S25 _ _ l24
  have t24 := Tm.same S25 t24
  clear h25
  generalize upd X24 p25 (.tup [V.ref p24, V.str two]) = X25 at *
  have e25 : due (.node (.record ["a", one]) [(.node (.var two) []), (.node (.var "x") [])]) = V.str two := by simp [due, badsOf, T.toks, T.tokss, Hd.toks, sepd, flds, wd, nmW, b1, b2, bx, ba, bf]
  have w25 : Wt (.node (.record ["a", one]) [(.node (.var two) []), (.node (.var "x") [])]) := by simp [Wt_iff, okHd, okRec, n1, n2, nx, na, nf, a1']
  have i25 : Itm K X25 (.ref p25) := ⟨p25, _, (.node (.record ["a", one]) [(.node (.var two) []), (.node (.var "x") [])]), rfl, by rw [e25]; exact SqT.of l25, t24, w25, by simp [T.size, T.sizes], by simp [T.deep, T.deeps]⟩
  clear e25 w25
  clear l20 t20 l21 l22 l23 l24 t24 l25
  walk_at "rd"
  intro p26 h26
  have S26 := same_new h26 (.lst [V.ref p25])
  have l26 := @upd_same X25 p26 (.lst [V.ref p25])
  have tlow := Tm.same S26 tlow
  have S0 := Same.trans S0 S26
  have l19 := S26 _ _ l19
  have a19 := fun v m => Itm.same S26 (a19 v m)
  have i25 := Itm.same S26 i25
  clear h26
  generalize upd X25 p26 (.lst [V.ref p25]) = X26 at *
  have a26 : ∀ v ∈ [V.ref p25], Itm K X26 v := fun v m => by
    simp only [List.mem_cons, List.not_mem_nil, or_false] at m
    rcases m with rfl
    · exact i25
  clear i25
  walk_at "rd"
  refine ⟨p19, p26, _, _, rfl, rfl, l19, l26, sz (by simp [len]), fun p27 h27 => ?_⟩
  obtain ⟨vs27, ev⟩ : ∃ vs27, vs27 = vs19 ++ [V.ref p25] := ⟨_, rfl⟩
  have aa27 : ∀ v ∈ vs27, Itm K X26 v := fun v m => by
    rw [ev] at m
    rcases List.mem_append.mp m with m | m
    · exact a19 v m
    · exact a26 v m
  have len27 : vs27.length = 6 := by rw [ev, List.length_append, len]; rfl
  rw [← ev] at *
  clear ev len
  have len := len27
  clear len27
  clear a19 a26 l19 l26
  have S27 := same_new h27 (.lst vs27)
  have l27 := @upd_same X26 p27 (.lst vs27)
  have tlow := Tm.same S27 tlow
  have S0 := Same.trans S0 S27
  have aa27 := fun v m => Itm.same S27 (aa27 v m)
  have a27 := aa27
  clear aa27 h27
  generalize upd X26 p27 (.lst vs27) = X27 at *
  walk_at "rd"
  intro p28 h28
  have S28 := same_new h28 (.tup [V.str "var", V.str two])
  have l28 := @upd_same X27 p28 (.tup [V.str "var", V.str two])
  have tlow := Tm.same S28 tlow
  have S0 := Same.trans S0 S28
  have l27 := S28 _ _ l27
  have a27 := fun v m => Itm.same S28 (a27 v m)
  clear h28
  generalize upd X27 p28 (.tup [V.str "var", V.str two]) = X28 at *
  have t28 : Tm K X28 (.ref p28) (.node (.var two) []) := .var (SqT.of l28)
  walk_at "rd"
  intro p29 h29
  have S29 := same_new h29 (.tup [V.str one, V.ref p28])
  have l29 := @upd_same X28 p29 (.tup [V.str one, V.ref p28])
  have tlow := Tm.same S29 tlow
  have S0 := Same.trans S0 S29
  have l27 := S29 _ _ l27
  have a27 := fun v m => Itm.same S29 (a27 v m)
  have l28 := S29 _ _ l28
  have t28 := Tm.same S29 t28
  clear h29
  generalize upd X28 p29 (.tup [V.str one, V.ref p28]) = X29 at *
  walk_at "rd"
  intro p30 h30
  have S30 := same_new h30 (.lst [V.ref p29])
  have l30 := @upd_same X29 p30 (.lst [V.ref p29])
  have tlow := Tm.same S30 tlow
  have S0 := Same.trans S0 S30
  have l27 := S30 _ _ l27
  have a27 := fun v m => Itm.same S30 (a27 v m)
  have l28 := S30 _ _ l28
  have t28 := Tm.same S30 t28
  have l29 := S30 _ _ l29
  clear h30
  generalize upd X29 p30 (.lst [V.ref p29]) = X30 at *
  walk_at "rd"
  intro p31 h31
  have S31 := same_new h31 (.tup [V.str "record", V.ref p30])
  have l31 := @upd_same X30 p31 (.tup [V.str "record", V.ref p30])
  have tlow := Tm.same S31 tlow
  have S0 := Same.trans S0 S31
  have l27 := S31 _ _ l27
  have a27 := fun v m => Itm.same S31 (a27 v m)
  have l28 := S31 _ _ l28
  have t28 := Tm.same S31 t28
  have l29 := S31 _ _ l29
  have l30 := S31 _ _ l30
  clear h31
  generalize upd X30 p31 (.tup [V.str "record", V.ref p30]) = X31 at *
  have t31 : Tm K X31 (.ref p31) (.node (.record [one]) [(.node (.var two) [])]) := rec1 (SqT.of l31) l30 l29 t28
  walk_at "rd"
  intro p32 h32
  have S32 := same_new h32 (.tup [V.ref p31, V.str one])
  have l32 := @upd_same X31 p32 (.tup [V.ref p31, V.str one])
  have tlow := Tm.same S32 tlow
  have S0 := Same.trans S0 S32
  have l27 := S32 _ _ l27
  have a27 := fun v m => Itm.same S32 (a27 v m)
  have l28 := S32 _ _ l28
  have t28 := Tm.same S32 t28
  have l29 := S32 _ _ l29
  have l30 := S32 _ _ l30
  have l31 := S32 _ _ l31
  have t31 := Tm.same S32 t31
  clear h32
  generalize upd X31 p32 (.tup [V.ref p31, V.str one]) = X32 at *
  have e32 : due (.node (.record [one]) [(.node (.var two) [])]) = V.str one := by simp [due, badsOf, T.toks, T.tokss, Hd.toks, sepd, flds, wd, nmW, b1, b2, bx, ba, bf]
  have w32 : Wt (.node (.record [one]) [(.node (.var two) [])]) := by simp [Wt_iff, okHd, okRec, n1, n2, nx, na, nf, a1']
  have i32 : Itm K X32 (.ref p32) := ⟨p32, _, (.node (.record [one]) [(.node (.var two) [])]), rfl, by rw [e32]; exact SqT.of l32, t31, w32, by simp [T.size, T.sizes], by simp [T.deep, T.deeps]⟩
  clear e32 w32
  clear l28 t28 l29 l30 l31 t31 l32
  walk_at "rd"
  intro p33 h33
  have S33 := same_new h33 (.tup [V.str "var", V.str two])
  have l33 := @upd_same X32 p33 (.tup [V.str "var", V.str two])
  have tlow := Tm.same S33 tlow
  have S0 := Same.trans S0 S33
  have l27 := S33 _ _ l27
  have a27 := fun v m => Itm.same S33 (a27 v m)
  have i32 := Itm.same S33 i32
  clear h33
  generalize upd X32 p33 (.tup [V.str "var", V.str two]) = X33 at *
  have t33 : Tm K X33 (.ref p33) (.node (.var two) []) := .var (SqT.of l33)
  walk_at "rd"
  intro p34 h34
  have S34 := same_new h34 (.tup [V.str "field", V.ref p33, V.str one])
  have l34 := @upd_same X33 p34 (.tup [V.str "field", V.ref p33, V.str one])
  have tlow := Tm.same S34 tlow
  have S0 := Same.trans S0 S34
  have l27 := S34 _ _ l27
  have a27 := fun v m => Itm.same S34 (a27 v m)
  have i32 := Itm.same S34 i32
  have l33 := S34 _ _ l33
  have t33 := Tm.same S34 t33
  clear h34
  generalize upd X33 p34 (.tup [V.str "field", V.ref p33, V.str one]) = X34 at *
  have t34 : Tm K X34 (.ref p34) (.node (.field one) [(.node (.var two) [])]) := .field (SqT.of l34) t33
  walk_at "rd"
  intro p35 h35
  have S35 := same_new h35 (.tup [V.ref p34, V.str two])
  have l35 := @upd_same X34 p35 (.tup [V.ref p34, V.str two])
  have tlow := Tm.same S35 tlow
  have S0 := Same.trans S0 S35
  have l27 := S35 _ _ l27
  have a27 := fun v m => Itm.same S35 (a27 v m)
  have i32 := Itm.same S35 i32
  have l33 := S35 _ _ l33
  have t33 := Tm.same S35 t33
  have l34 := S35 _ _ l34
  have t34 := Tm.same S35 t34
  clear h35
  generalize upd X34 p35 (.tup [V.ref p34, V.str two]) = X35 at *
  have e35 : due (.node (.field one) [(.node (.var two) [])]) = V.str two := by simp [due, badsOf, T.toks, T.tokss, Hd.toks, sepd, flds, wd, nmW, b1, b2, bx, ba, bf]
  have w35 : Wt (.node (.field one) [(.node (.var two) [])]) := by simp [Wt_iff, okHd, okRec, n1, n2, nx, na, nf, a1']
  have i35 : Itm K X35 (.ref p35) := ⟨p35, _, (.node (.field one) [(.node (.var two) [])]), rfl, by rw [e35]; exact SqT.of l35, t34, w35, by simp [T.size, T.sizes], by simp [T.deep, T.deeps]⟩
  clear e35 w35
  clear l33 t33 l34 t34 l35
  walk_at "rd"
  intro p36 h36
  have S36 := same_new h36 (.lst [V.ref p32, V.ref p35])
  have l36 := @upd_same X35 p36 (.lst [V.ref p32, V.ref p35])
  have tlow := Tm.same S36 tlow
  have S0 := Same.trans S0 S36
  have l27 := S36 _ _ l27
  have a27 := fun v m => Itm.same S36 (a27 v m)
  have i32 := Itm.same S36 i32
  have i35 := Itm.same S36 i35
  clear h36
  generalize upd X35 p36 (.lst [V.ref p32, V.ref p35]) = X36 at *
  have a36 : ∀ v ∈ [V.ref p32, V.ref p35], Itm K X36 v := fun v m => by
    simp only [List.mem_cons, List.not_mem_nil, or_false] at m
    rcases m with rfl | rfl
    · exact i32
    · exact i35
  clear i32 i35
  walk_at "rd"
  refine ⟨p27, p36, _, _, rfl, rfl, l27, l36, sz (by simp [len]), fun p37 h37 => ?_⟩
  obtain ⟨vs37, ev⟩ : ∃ vs37, vs37 = vs27 ++ [V.ref p32, V.ref p35] := ⟨_, rfl⟩
  have aa37 : ∀ v ∈ vs37, Itm K X36 v := fun v m => by
    rw [ev] at m
    rcases List.mem_append.mp m with m | m
    · exact a27 v m
    · exact a36 v m
  have len37 : vs37.length = 8 := by rw [ev, List.length_append, len]; rfl
  rw [← ev] at *
  clear ev len
  have len := len37
  clear len37
  clear a27 a36 l27 l36
  have S37 := same_new h37 (.lst vs37)
  have l37 := @upd_same X36 p37 (.lst vs37)
  have tlow := Tm.same S37 tlow
  have S0 := Same.trans S0 S37
  have aa37 := fun v m => Itm.same S37 (aa37 v m)
  have a37 := aa37
  clear aa37 h37
  generalize upd X36 p37 (.lst vs37) = X37 at *
  walk_at "rd"
  intro p38 h38
  have S38 := same_new h38 (.tup [V.str "var", V.str two])
  have l38 := @upd_same X37 p38 (.tup [V.str "var", V.str two])
  have tlow := Tm.same S38 tlow
  have S0 := Same.trans S0 S38
  have l37 := S38 _ _ l37
  have a37 := fun v m => Itm.same S38 (a37 v m)
  clear h38
  generalize upd X37 p38 (.tup [V.str "var", V.str two]) = X38 at *
  have t38 : Tm K X38 (.ref p38) (.node (.var two) []) := .var (SqT.of l38)
  walk_at "rd"
  intro p39 h39
  have S39 := same_new h39 (.tup [V.str "with", V.ref low, V.str one, V.ref p38])
  have l39 := @upd_same X38 p39 (.tup [V.str "with", V.ref low, V.str one, V.ref p38])
  have tlow := Tm.same S39 tlow
  have S0 := Same.trans S0 S39
  have l37 := S39 _ _ l37
  have a37 := fun v m => Itm.same S39 (a37 v m)
  have l38 := S39 _ _ l38
  have t38 := Tm.same S39 t38
  clear h39
  generalize upd X38 p39 (.tup [V.str "with", V.ref low, V.str one, V.ref p38]) = X39 at *
  have t39 : Tm K X39 (.ref p39) (.node (.wth one) [(.node (.var "x") []), (.node (.var two) [])]) := .wth (SqT.of l39) tlow t38
  walk_at "rd"
  intro p40 h40
  have S40 := same_new h40 (.tup [V.ref p39, V.str one])
  have l40 := @upd_same X39 p40 (.tup [V.ref p39, V.str one])
  have tlow := Tm.same S40 tlow
  have S0 := Same.trans S0 S40
  have l37 := S40 _ _ l37
  have a37 := fun v m => Itm.same S40 (a37 v m)
  have l38 := S40 _ _ l38
  have t38 := Tm.same S40 t38
  have l39 := S40 _ _ l39
  have t39 := Tm.same S40 t39
  clear h40
  generalize upd X39 p40 (.tup [V.ref p39, V.str one]) = X40 at *
  have e40 : due (.node (.wth one) [(.node (.var "x") []), (.node (.var two) [])]) = V.str one := by simp [due, badsOf, T.toks, T.tokss, Hd.toks, sepd, flds, wd, nmW, b1, b2, bx, ba, bf]
  have w40 : Wt (.node (.wth one) [(.node (.var "x") []), (.node (.var two) [])]) := by simp [Wt_iff, okHd, okRec, n1, n2, nx, na, nf, a1']
  have i40 : Itm K X40 (.ref p40) := ⟨p40, _, (.node (.wth one) [(.node (.var "x") []), (.node (.var two) [])]), rfl, by rw [e40]; exact SqT.of l40, t39, w40, by simp [T.size, T.sizes], by simp [T.deep, T.deeps]⟩
  clear e40 w40
  clear l38 t38 l39 t39 l40
  walk_at "rd"
  intro p41 h41
  have S41 := same_new h41 (.tup [V.str "var", V.str two])
  have l41 := @upd_same X40 p41 (.tup [V.str "var", V.str two])
  have tlow := Tm.same S41 tlow
  have S0 := Same.trans S0 S41
  have l37 := S41 _ _ l37
  have a37 := fun v m => Itm.same S41 (a37 v m)
  have i40 := Itm.same S41 i40
  clear h41
  generalize upd X40 p41 (.tup [V.str "var", V.str two]) = X41 at *
  have t41 : Tm K X41 (.ref p41) (.node (.var two) []) := .var (SqT.of l41)
  walk_at "rd"
  intro p42 h42
  have S42 := same_new h42 (.tup [V.str "with", V.ref p41, V.str one, V.ref low])
  have l42 := @upd_same X41 p42 (.tup [V.str "with", V.ref p41, V.str one, V.ref low])
  have tlow := Tm.same S42 tlow
  have S0 := Same.trans S0 S42
  have l37 := S42 _ _ l37
  have a37 := fun v m => Itm.same S42 (a37 v m)
  have i40 := Itm.same S42 i40
  have l41 := S42 _ _ l41
  have t41 := Tm.same S42 t41
  clear h42
  generalize upd X41 p42 (.tup [V.str "with", V.ref p41, V.str one, V.ref low]) = X42 at *
  have t42 : Tm K X42 (.ref p42) (.node (.wth one) [(.node (.var two) []), (.node (.var "x") [])]) := .wth (SqT.of l42) t41 tlow
  walk_at "rd"
  intro p43 h43
  have S43 := same_new h43 (.tup [V.ref p42, V.str two])
  have l43 := @upd_same X42 p43 (.tup [V.ref p42, V.str two])
  have tlow := Tm.same S43 tlow
  have S0 := Same.trans S0 S43
  have l37 := S43 _ _ l37
  have a37 := fun v m => Itm.same S43 (a37 v m)
  have i40 := Itm.same S43 i40
  have l41 := S43 _ _ l41
  have t41 := Tm.same S43 t41
  have l42 := S43 _ _ l42
  have t42 := Tm.same S43 t42
  clear h43
  generalize upd X42 p43 (.tup [V.ref p42, V.str two]) = X43 at *
  have e43 : due (.node (.wth one) [(.node (.var two) []), (.node (.var "x") [])]) = V.str two := by simp [due, badsOf, T.toks, T.tokss, Hd.toks, sepd, flds, wd, nmW, b1, b2, bx, ba, bf]
  have w43 : Wt (.node (.wth one) [(.node (.var two) []), (.node (.var "x") [])]) := by simp [Wt_iff, okHd, okRec, n1, n2, nx, na, nf, a1']
  have i43 : Itm K X43 (.ref p43) := ⟨p43, _, (.node (.wth one) [(.node (.var two) []), (.node (.var "x") [])]), rfl, by rw [e43]; exact SqT.of l43, t42, w43, by simp [T.size, T.sizes], by simp [T.deep, T.deeps]⟩
  clear e43 w43
  clear l41 t41 l42 t42 l43
  walk_at "rd"
  intro p44 h44
  have S44 := same_new h44 (.lst [V.ref p40, V.ref p43])
  have l44 := @upd_same X43 p44 (.lst [V.ref p40, V.ref p43])
  have tlow := Tm.same S44 tlow
  have S0 := Same.trans S0 S44
  have l37 := S44 _ _ l37
  have a37 := fun v m => Itm.same S44 (a37 v m)
  have i40 := Itm.same S44 i40
  have i43 := Itm.same S44 i43
  clear h44
  generalize upd X43 p44 (.lst [V.ref p40, V.ref p43]) = X44 at *
  have a44 : ∀ v ∈ [V.ref p40, V.ref p43], Itm K X44 v := fun v m => by
    simp only [List.mem_cons, List.not_mem_nil, or_false] at m
    rcases m with rfl | rfl
    · exact i40
    · exact i43
  clear i40 i43
  walk_at "rd"
  refine ⟨p37, p44, _, _, rfl, rfl, l37, l44, sz (by simp [len]), fun p45 h45 => ?_⟩
  obtain ⟨vs45, ev⟩ : ∃ vs45, vs45 = vs37 ++ [V.ref p40, V.ref p43] := ⟨_, rfl⟩
  have aa45 : ∀ v ∈ vs45, Itm K X44 v := fun v m => by
    rw [ev] at m
    rcases List.mem_append.mp m with m | m
    · exact a37 v m
    · exact a44 v m
  have len45 : vs45.length = 10 := by rw [ev, List.length_append, len]; rfl
  rw [← ev] at *
  clear ev len
  have len := len45
  clear len45
  clear a37 a44 l37 l44
  have S45 := same_new h45 (.lst vs45)
  have l45 := @upd_same X44 p45 (.lst vs45)
  have tlow := Tm.same S45 tlow
  have S0 := Same.trans S0 S45
  have aa45 := fun v m => Itm.same S45 (aa45 v m)
  have a45 := aa45
  clear aa45 h45
  generalize upd X44 p45 (.lst vs45) = X45 at *
  walk_at "rd"
  intro p46 h46
  have S46 := same_new h46 (.tup [V.str "field", V.ref low, V.str one])
  have l46 := @upd_same X45 p46 (.tup [V.str "field", V.ref low, V.str one])
  have tlow := Tm.same S46 tlow
  have S0 := Same.trans S0 S46
  have l45 := S46 _ _ l45
  have a45 := fun v m => Itm.same S46 (a45 v m)
  clear h46
  generalize upd X45 p46 (.tup [V.str "field", V.ref low, V.str one]) = X46 at *
  have t46 : Tm K X46 (.ref p46) (.node (.field one) [(.node (.var "x") [])]) := .field (SqT.of l46) tlow
  walk_at "rd"
  intro p47 h47
  have S47 := same_new h47 (.tup [V.ref p46, V.str one])
  have l47 := @upd_same X46 p47 (.tup [V.ref p46, V.str one])
  have tlow := Tm.same S47 tlow
  have S0 := Same.trans S0 S47
  have l45 := S47 _ _ l45
  have a45 := fun v m => Itm.same S47 (a45 v m)
  have l46 := S47 _ _ l46
  have t46 := Tm.same S47 t46
  clear h47
  generalize upd X46 p47 (.tup [V.ref p46, V.str one]) = X47 at *
  have e47 : due (.node (.field one) [(.node (.var "x") [])]) = V.str one := by simp [due, badsOf, T.toks, T.tokss, Hd.toks, sepd, flds, wd, nmW, b1, b2, bx, ba, bf]
  have w47 : Wt (.node (.field one) [(.node (.var "x") [])]) := by simp [Wt_iff, okHd, okRec, n1, n2, nx, na, nf, a1']
  have i47 : Itm K X47 (.ref p47) := ⟨p47, _, (.node (.field one) [(.node (.var "x") [])]), rfl, by rw [e47]; exact SqT.of l47, t46, w47, by simp [T.size, T.sizes], by simp [T.deep, T.deeps]⟩
  clear e47 w47
  clear l46 t46 l47
  walk_at "rd"
  intro p48 h48
  have S48 := same_new h48 (.tup [V.str "var", V.str one])
  have l48 := @upd_same X47 p48 (.tup [V.str "var", V.str one])
  have tlow := Tm.same S48 tlow
  have S0 := Same.trans S0 S48
  have l45 := S48 _ _ l45
  have a45 := fun v m => Itm.same S48 (a45 v m)
  have i47 := Itm.same S48 i47
  clear h48
  generalize upd X47 p48 (.tup [V.str "var", V.str one]) = X48 at *
  have t48 : Tm K X48 (.ref p48) (.node (.var one) []) := .var (SqT.of l48)
  walk_at "rd"
  intro p49 h49
  have S49 := same_new h49 (.tup [V.str "part", V.int 0, V.int 2, V.ref p48])
  have l49 := @upd_same X48 p49 (.tup [V.str "part", V.int 0, V.int 2, V.ref p48])
  have tlow := Tm.same S49 tlow
  have S0 := Same.trans S0 S49
  have l45 := S49 _ _ l45
  have a45 := fun v m => Itm.same S49 (a45 v m)
  have i47 := Itm.same S49 i47
  have l48 := S49 _ _ l48
  have t48 := Tm.same S49 t48
  clear h49
  generalize upd X48 p49 (.tup [V.str "part", V.int 0, V.int 2, V.ref p48]) = X49 at *
  have t49 : Tm K X49 (.ref p49) (.node (.part 0 2) [(.node (.var one) [])]) := .part (SqT.of l49) t48
  walk_at "rd"
  intro p50 h50
  have S50 := same_new h50 (.tup [V.ref p49, V.str one])
  have l50 := @upd_same X49 p50 (.tup [V.ref p49, V.str one])
  have tlow := Tm.same S50 tlow
  have S0 := Same.trans S0 S50
  have l45 := S50 _ _ l45
  have a45 := fun v m => Itm.same S50 (a45 v m)
  have i47 := Itm.same S50 i47
  have l48 := S50 _ _ l48
  have t48 := Tm.same S50 t48
  have l49 := S50 _ _ l49
  have t49 := Tm.same S50 t49
  clear h50
  generalize upd X49 p50 (.tup [V.ref p49, V.str one]) = X50 at *
  have e50 : due (.node (.part 0 2) [(.node (.var one) [])]) = V.str one := by simp [due, badsOf, T.toks, T.tokss, Hd.toks, sepd, flds, wd, nmW, b1, b2, bx, ba, bf]
  have w50 : Wt (.node (.part 0 2) [(.node (.var one) [])]) := by simp [Wt_iff, okHd, okRec, n1, n2, nx, na, nf, a1']
  have i50 : Itm K X50 (.ref p50) := ⟨p50, _, (.node (.part 0 2) [(.node (.var one) [])]), rfl, by rw [e50]; exact SqT.of l50, t49, w50, by simp [T.size, T.sizes], by simp [T.deep, T.deeps]⟩
  clear e50 w50
  clear l48 t48 l49 t49 l50
  walk_at "rd"
  intro p51 h51
  have S51 := same_new h51 (.lst [V.ref p47, V.ref p50])
  have l51 := @upd_same X50 p51 (.lst [V.ref p47, V.ref p50])
  have tlow := Tm.same S51 tlow
  have S0 := Same.trans S0 S51
  have l45 := S51 _ _ l45
  have a45 := fun v m => Itm.same S51 (a45 v m)
  have i47 := Itm.same S51 i47
  have i50 := Itm.same S51 i50
  clear h51
  generalize upd X50 p51 (.lst [V.ref p47, V.ref p50]) = X51 at *
  have a51 : ∀ v ∈ [V.ref p47, V.ref p50], Itm K X51 v := fun v m => by
    simp only [List.mem_cons, List.not_mem_nil, or_false] at m
    rcases m with rfl | rfl
    · exact i47
    · exact i50
  clear i47 i50
  walk_at "rd"
  refine ⟨p45, p51, _, _, rfl, rfl, l45, l51, sz (by simp [len]), fun p52 h52 => ?_⟩
  obtain ⟨vs52, ev⟩ : ∃ vs52, vs52 = vs45 ++ [V.ref p47, V.ref p50] := ⟨_, rfl⟩
  have aa52 : ∀ v ∈ vs52, Itm K X51 v := fun v m => by
    rw [ev] at m
    rcases List.mem_append.mp m with m | m
    · exact a45 v m
    · exact a51 v m
  have len52 : vs52.length = 12 := by rw [ev, List.length_append, len]; rfl
  rw [← ev] at *
  clear ev len
  have len := len52
  clear len52
  clear a45 a51 l45 l51
  have S52 := same_new h52 (.lst vs52)
  have l52 := @upd_same X51 p52 (.lst vs52)
  have tlow := Tm.same S52 tlow
  have S0 := Same.trans S0 S52
  have aa52 := fun v m => Itm.same S52 (aa52 v m)
  have a52 := aa52
  clear aa52 h52
  generalize upd X51 p52 (.lst vs52) = X52 at *
  walk_at "rd"
  intro p53 h53
  have S53 := same_new h53 (.tup [V.str "var", V.str two])
  have l53 := @upd_same X52 p53 (.tup [V.str "var", V.str two])
  have tlow := Tm.same S53 tlow
  have S0 := Same.trans S0 S53
  have l52 := S53 _ _ l52
  have a52 := fun v m => Itm.same S53 (a52 v m)
  clear h53
  generalize upd X52 p53 (.tup [V.str "var", V.str two]) = X53 at *
  have t53 : Tm K X53 (.ref p53) (.node (.var two) []) := .var (SqT.of l53)
  walk_at "rd"
  intro p54 h54
  have S54 := same_new h54 (.tup [V.str "if", V.ref low, V.ref p53, V.ref low])
  have l54 := @upd_same X53 p54 (.tup [V.str "if", V.ref low, V.ref p53, V.ref low])
  have tlow := Tm.same S54 tlow
  have S0 := Same.trans S0 S54
  have l52 := S54 _ _ l52
  have a52 := fun v m => Itm.same S54 (a52 v m)
  have l53 := S54 _ _ l53
  have t53 := Tm.same S54 t53
  clear h54
  generalize upd X53 p54 (.tup [V.str "if", V.ref low, V.ref p53, V.ref low]) = X54 at *
  have t54 : Tm K X54 (.ref p54) (.node .cond [(.node (.var "x") []), (.node (.var two) []), (.node (.var "x") [])]) := .cond (SqT.of l54) tlow t53 tlow
  walk_at "rd"
  intro p55 h55
  have S55 := same_new h55 (.tup [V.ref p54, V.str two])
  have l55 := @upd_same X54 p55 (.tup [V.ref p54, V.str two])
  have tlow := Tm.same S55 tlow
  have S0 := Same.trans S0 S55
  have l52 := S55 _ _ l52
  have a52 := fun v m => Itm.same S55 (a52 v m)
  have l53 := S55 _ _ l53
  have t53 := Tm.same S55 t53
  have l54 := S55 _ _ l54
  have t54 := Tm.same S55 t54
  clear h55
  generalize upd X54 p55 (.tup [V.ref p54, V.str two]) = X55 at *
  have e55 : due (.node .cond [(.node (.var "x") []), (.node (.var two) []), (.node (.var "x") [])]) = V.str two := by simp [due, badsOf, T.toks, T.tokss, Hd.toks, sepd, flds, wd, nmW, b1, b2, bx, ba, bf]
  have w55 : Wt (.node .cond [(.node (.var "x") []), (.node (.var two) []), (.node (.var "x") [])]) := by simp [Wt_iff, okHd, okRec, n1, n2, nx, na, nf, a1']
  have i55 : Itm K X55 (.ref p55) := ⟨p55, _, (.node .cond [(.node (.var "x") []), (.node (.var two) []), (.node (.var "x") [])]), rfl, by rw [e55]; exact SqT.of l55, t54, w55, by simp [T.size, T.sizes], by simp [T.deep, T.deeps]⟩
  clear e55 w55
  clear l53 t53 l54 t54 l55
  walk_at "rd"
  intro p56 h56
  have S56 := same_new h56 (.tup [V.str "var", V.str one])
  have l56 := @upd_same X55 p56 (.tup [V.str "var", V.str one])
  have tlow := Tm.same S56 tlow
  have S0 := Same.trans S0 S56
  have l52 := S56 _ _ l52
  have a52 := fun v m => Itm.same S56 (a52 v m)
  have i55 := Itm.same S56 i55
  clear h56
  generalize upd X55 p56 (.tup [V.str "var", V.str one]) = X56 at *
  have t56 : Tm K X56 (.ref p56) (.node (.var one) []) := .var (SqT.of l56)
  walk_at "rd"
  intro p57 h57
  have S57 := same_new h57 (.tup [V.str "if", V.ref p56, V.ref low, V.ref low])
  have l57 := @upd_same X56 p57 (.tup [V.str "if", V.ref p56, V.ref low, V.ref low])
  have tlow := Tm.same S57 tlow
  have S0 := Same.trans S0 S57
  have l52 := S57 _ _ l52
  have a52 := fun v m => Itm.same S57 (a52 v m)
  have i55 := Itm.same S57 i55
  have l56 := S57 _ _ l56
  have t56 := Tm.same S57 t56
  clear h57
  generalize upd X56 p57 (.tup [V.str "if", V.ref p56, V.ref low, V.ref low]) = X57 at *
  have t57 : Tm K X57 (.ref p57) (.node .cond [(.node (.var one) []), (.node (.var "x") []), (.node (.var "x") [])]) := .cond (SqT.of l57) t56 tlow tlow
  walk_at "rd"
  intro p58 h58
  have S58 := same_new h58 (.tup [V.ref p57, V.str one])
  have l58 := @upd_same X57 p58 (.tup [V.ref p57, V.str one])
  have tlow := Tm.same S58 tlow
  have S0 := Same.trans S0 S58
  have l52 := S58 _ _ l52
  have a52 := fun v m => Itm.same S58 (a52 v m)
  have i55 := Itm.same S58 i55
  have l56 := S58 _ _ l56
  have t56 := Tm.same S58 t56
  have l57 := S58 _ _ l57
  have t57 := Tm.same S58 t57
  clear h58
  generalize upd X57 p58 (.tup [V.ref p57, V.str one]) = X58 at *
  have e58 : due (.node .cond [(.node (.var one) []), (.node (.var "x") []), (.node (.var "x") [])]) = V.str one := by simp [due, badsOf, T.toks, T.tokss, Hd.toks, sepd, flds, wd, nmW, b1, b2, bx, ba, bf]
  have w58 : Wt (.node .cond [(.node (.var one) []), (.node (.var "x") []), (.node (.var "x") [])]) := by simp [Wt_iff, okHd, okRec, n1, n2, nx, na, nf, a1']
  have i58 : Itm K X58 (.ref p58) := ⟨p58, _, (.node .cond [(.node (.var one) []), (.node (.var "x") []), (.node (.var "x") [])]), rfl, by rw [e58]; exact SqT.of l58, t57, w58, by simp [T.size, T.sizes], by simp [T.deep, T.deeps]⟩
  clear e58 w58
  clear l56 t56 l57 t57 l58
  walk_at "rd"
  intro p59 h59
  have S59 := same_new h59 (.lst [V.ref p55, V.ref p58])
  have l59 := @upd_same X58 p59 (.lst [V.ref p55, V.ref p58])
  have tlow := Tm.same S59 tlow
  have S0 := Same.trans S0 S59
  have l52 := S59 _ _ l52
  have a52 := fun v m => Itm.same S59 (a52 v m)
  have i55 := Itm.same S59 i55
  have i58 := Itm.same S59 i58
  clear h59
  generalize upd X58 p59 (.lst [V.ref p55, V.ref p58]) = X59 at *
  have a59 : ∀ v ∈ [V.ref p55, V.ref p58], Itm K X59 v := fun v m => by
    simp only [List.mem_cons, List.not_mem_nil, or_false] at m
    rcases m with rfl | rfl
    · exact i55
    · exact i58
  clear i55 i58
  walk_at "rd"
  refine ⟨p52, p59, _, _, rfl, rfl, l52, l59, sz (by simp [len]), fun p60 h60 => ?_⟩
  obtain ⟨vs60, ev⟩ : ∃ vs60, vs60 = vs52 ++ [V.ref p55, V.ref p58] := ⟨_, rfl⟩
  have aa60 : ∀ v ∈ vs60, Itm K X59 v := fun v m => by
    rw [ev] at m
    rcases List.mem_append.mp m with m | m
    · exact a52 v m
    · exact a59 v m
  have len60 : vs60.length = 14 := by rw [ev, List.length_append, len]; rfl
  rw [← ev] at *
  clear ev len
  have len := len60
  clear len60
  clear a52 a59 l52 l59
  have S60 := same_new h60 (.lst vs60)
  have l60 := @upd_same X59 p60 (.lst vs60)
  have tlow := Tm.same S60 tlow
  have S0 := Same.trans S0 S60
  have aa60 := fun v m => Itm.same S60 (aa60 v m)
  have a60 := aa60
  clear aa60 h60
  generalize upd X59 p60 (.lst vs60) = X60 at *
  walk_at "rd"
  intro p61 h61
  have S61 := same_new h61 (.tup [V.str "var", V.str one])
  have l61 := @upd_same X60 p61 (.tup [V.str "var", V.str one])
  have tlow := Tm.same S61 tlow
  have S0 := Same.trans S0 S61
  have l60 := S61 _ _ l60
  have a60 := fun v m => Itm.same S61 (a60 v m)
  clear h61
  generalize upd X60 p61 (.tup [V.str "var", V.str one]) = X61 at *
  have t61 : Tm K X61 (.ref p61) (.node (.var one) []) := .var (SqT.of l61)
  walk_at "rd"
  intro p62 h62
  have S62 := same_new h62 (.tup [V.str "if", V.ref low, V.ref low, V.ref p61])
  have l62 := @upd_same X61 p62 (.tup [V.str "if", V.ref low, V.ref low, V.ref p61])
  have tlow := Tm.same S62 tlow
  have S0 := Same.trans S0 S62
  have l60 := S62 _ _ l60
  have a60 := fun v m => Itm.same S62 (a60 v m)
  have l61 := S62 _ _ l61
  have t61 := Tm.same S62 t61
  clear h62
  generalize upd X61 p62 (.tup [V.str "if", V.ref low, V.ref low, V.ref p61]) = X62 at *
  have t62 : Tm K X62 (.ref p62) (.node .cond [(.node (.var "x") []), (.node (.var "x") []), (.node (.var one) [])]) := .cond (SqT.of l62) tlow tlow t61
  walk_at "rd"
  intro p63 h63
  have S63 := same_new h63 (.tup [V.ref p62, V.str one])
  have l63 := @upd_same X62 p63 (.tup [V.ref p62, V.str one])
  have tlow := Tm.same S63 tlow
  have S0 := Same.trans S0 S63
  have l60 := S63 _ _ l60
  have a60 := fun v m => Itm.same S63 (a60 v m)
  have l61 := S63 _ _ l61
  have t61 := Tm.same S63 t61
  have l62 := S63 _ _ l62
  have t62 := Tm.same S63 t62
  clear h63
  generalize upd X62 p63 (.tup [V.ref p62, V.str one]) = X63 at *
  have e63 : due (.node .cond [(.node (.var "x") []), (.node (.var "x") []), (.node (.var one) [])]) = V.str one := by simp [due, badsOf, T.toks, T.tokss, Hd.toks, sepd, flds, wd, nmW, b1, b2, bx, ba, bf]
  have w63 : Wt (.node .cond [(.node (.var "x") []), (.node (.var "x") []), (.node (.var one) [])]) := by simp [Wt_iff, okHd, okRec, n1, n2, nx, na, nf, a1']
  have i63 : Itm K X63 (.ref p63) := ⟨p63, _, (.node .cond [(.node (.var "x") []), (.node (.var "x") []), (.node (.var one) [])]), rfl, by rw [e63]; exact SqT.of l63, t62, w63, by simp [T.size, T.sizes], by simp [T.deep, T.deeps]⟩
  clear e63 w63
  clear l61 t61 l62 t62 l63
  walk_at "rd"
  intro p64 h64
  have S64 := same_new h64 (.tup [V.str "var", V.str one])
  have l64 := @upd_same X63 p64 (.tup [V.str "var", V.str one])
  have tlow := Tm.same S64 tlow
  have S0 := Same.trans S0 S64
  have l60 := S64 _ _ l60
  have a60 := fun v m => Itm.same S64 (a60 v m)
  have i63 := Itm.same S64 i63
  clear h64
  generalize upd X63 p64 (.tup [V.str "var", V.str one]) = X64 at *
  have t64 : Tm K X64 (.ref p64) (.node (.var one) []) := .var (SqT.of l64)
  walk_at "rd"
  intro p65 h65
  have S65 := same_new h65 (.tup [V.str "let", V.str "x", V.ref low, V.ref p64])
  have l65 := @upd_same X64 p65 (.tup [V.str "let", V.str "x", V.ref low, V.ref p64])
  have tlow := Tm.same S65 tlow
  have S0 := Same.trans S0 S65
  have l60 := S65 _ _ l60
  have a60 := fun v m => Itm.same S65 (a60 v m)
  have i63 := Itm.same S65 i63
  have l64 := S65 _ _ l64
  have t64 := Tm.same S65 t64
  clear h65
  generalize upd X64 p65 (.tup [V.str "let", V.str "x", V.ref low, V.ref p64]) = X65 at *
  have t65 : Tm K X65 (.ref p65) (.node (.lt "x") [(.node (.var "x") []), (.node (.var one) [])]) := .lt (SqT.of l65) tlow t64
  walk_at "rd"
  intro p66 h66
  have S66 := same_new h66 (.tup [V.ref p65, V.str one])
  have l66 := @upd_same X65 p66 (.tup [V.ref p65, V.str one])
  have tlow := Tm.same S66 tlow
  have S0 := Same.trans S0 S66
  have l60 := S66 _ _ l60
  have a60 := fun v m => Itm.same S66 (a60 v m)
  have i63 := Itm.same S66 i63
  have l64 := S66 _ _ l64
  have t64 := Tm.same S66 t64
  have l65 := S66 _ _ l65
  have t65 := Tm.same S66 t65
  clear h66
  generalize upd X65 p66 (.tup [V.ref p65, V.str one]) = X66 at *
  have e66 : due (.node (.lt "x") [(.node (.var "x") []), (.node (.var one) [])]) = V.str one := by simp [due, badsOf, T.toks, T.tokss, Hd.toks, sepd, flds, wd, nmW, b1, b2, bx, ba, bf]
  have w66 : Wt (.node (.lt "x") [(.node (.var "x") []), (.node (.var one) [])]) := by simp [Wt_iff, okHd, okRec, n1, n2, nx, na, nf, a1']
  have i66 : Itm K X66 (.ref p66) := ⟨p66, _, (.node (.lt "x") [(.node (.var "x") []), (.node (.var one) [])]), rfl, by rw [e66]; exact SqT.of l66, t65, w66, by simp [T.size, T.sizes], by simp [T.deep, T.deeps]⟩
  clear e66 w66
  clear l64 t64 l65 t65 l66
  walk_at "rd"
  intro p67 h67
  have S67 := same_new h67 (.lst [V.ref p63, V.ref p66])
  have l67 := @upd_same X66 p67 (.lst [V.ref p63, V.ref p66])
  have tlow := Tm.same S67 tlow
  have S0 := Same.trans S0 S67
  have l60 := S67 _ _ l60
  have a60 := fun v m => Itm.same S67 (a60 v m)
  have i63 := Itm.same S67 i63
  have i66 := Itm.same S67 i66
  clear h67
  generalize upd X66 p67 (.lst [V.ref p63, V.ref p66]) = X67 at *
  have a67 : ∀ v ∈ [V.ref p63, V.ref p66], Itm K X67 v := fun v m => by
    simp only [List.mem_cons, List.not_mem_nil, or_false] at m
    rcases m with rfl | rfl
    · exact i63
    · exact i66
  clear i63 i66
  walk_at "rd"
  refine ⟨p60, p67, _, _, rfl, rfl, l60, l67, sz (by simp [len]), fun p68 h68 => ?_⟩
  obtain ⟨vs68, ev⟩ : ∃ vs68, vs68 = vs60 ++ [V.ref p63, V.ref p66] := ⟨_, rfl⟩
  have aa68 : ∀ v ∈ vs68, Itm K X67 v := fun v m => by
    rw [ev] at m
    rcases List.mem_append.mp m with m | m
    · exact a60 v m
    · exact a67 v m
  have len68 : vs68.length = 16 := by rw [ev, List.length_append, len]; rfl
  rw [← ev] at *
  clear ev len
  have len := len68
  clear len68
  clear a60 a67 l60 l67
  have S68 := same_new h68 (.lst vs68)
  have l68 := @upd_same X67 p68 (.lst vs68)
  have tlow := Tm.same S68 tlow
  have S0 := Same.trans S0 S68
  have aa68 := fun v m => Itm.same S68 (aa68 v m)
  have a68 := aa68
  clear aa68 h68
  generalize upd X67 p68 (.lst vs68) = X68 at *
  walk_at "rd"
  intro p69 h69
  have S69 := same_new h69 (.tup [V.str "fun", V.str "x", V.ref low])
  have l69 := @upd_same X68 p69 (.tup [V.str "fun", V.str "x", V.ref low])
  have tlow := Tm.same S69 tlow
  have S0 := Same.trans S0 S69
  have l68 := S69 _ _ l68
  have a68 := fun v m => Itm.same S69 (a68 v m)
  clear h69
  generalize upd X68 p69 (.tup [V.str "fun", V.str "x", V.ref low]) = X69 at *
  have t69 : Tm K X69 (.ref p69) (.node (.fn "x") [(.node (.var "x") [])]) := .fn (SqT.of l69) tlow
  walk_at "rd"
  intro p70 h70
  have S70 := same_new h70 (.tup [V.str "var", V.str one])
  have l70 := @upd_same X69 p70 (.tup [V.str "var", V.str one])
  have tlow := Tm.same S70 tlow
  have S0 := Same.trans S0 S70
  have l68 := S70 _ _ l68
  have a68 := fun v m => Itm.same S70 (a68 v m)
  have l69 := S70 _ _ l69
  have t69 := Tm.same S70 t69
  clear h70
  generalize upd X69 p70 (.tup [V.str "var", V.str one]) = X70 at *
  have t70 : Tm K X70 (.ref p70) (.node (.var one) []) := .var (SqT.of l70)
  walk_at "rd"
  intro p71 h71
  have S71 := same_new h71 (.tup [V.str "rec", V.str "f", V.ref p69, V.ref p70])
  have l71 := @upd_same X70 p71 (.tup [V.str "rec", V.str "f", V.ref p69, V.ref p70])
  have tlow := Tm.same S71 tlow
  have S0 := Same.trans S0 S71
  have l68 := S71 _ _ l68
  have a68 := fun v m => Itm.same S71 (a68 v m)
  have l69 := S71 _ _ l69
  have t69 := Tm.same S71 t69
  have l70 := S71 _ _ l70
  have t70 := Tm.same S71 t70
  clear h71
  generalize upd X70 p71 (.tup [V.str "rec", V.str "f", V.ref p69, V.ref p70]) = X71 at *
  have t71 : Tm K X71 (.ref p71) (.node (.rc "f") [(.node (.fn "x") [(.node (.var "x") [])]), (.node (.var one) [])]) := .rc (SqT.of l71) t69 t70
  walk_at "rd"
  intro p72 h72
  have S72 := same_new h72 (.tup [V.ref p71, V.str one])
  have l72 := @upd_same X71 p72 (.tup [V.ref p71, V.str one])
  have tlow := Tm.same S72 tlow
  have S0 := Same.trans S0 S72
  have l68 := S72 _ _ l68
  have a68 := fun v m => Itm.same S72 (a68 v m)
  have l69 := S72 _ _ l69
  have t69 := Tm.same S72 t69
  have l70 := S72 _ _ l70
  have t70 := Tm.same S72 t70
  have l71 := S72 _ _ l71
  have t71 := Tm.same S72 t71
  clear h72
  generalize upd X71 p72 (.tup [V.ref p71, V.str one]) = X72 at *
  have e72 : due (.node (.rc "f") [(.node (.fn "x") [(.node (.var "x") [])]), (.node (.var one) [])]) = V.str one := by simp [due, badsOf, T.toks, T.tokss, Hd.toks, sepd, flds, wd, nmW, b1, b2, bx, ba, bf]
  have w72 : Wt (.node (.rc "f") [(.node (.fn "x") [(.node (.var "x") [])]), (.node (.var one) [])]) := by simp [Wt_iff, okHd, okRec, n1, n2, nx, na, nf, a1']
  have i72 : Itm K X72 (.ref p72) := ⟨p72, _, (.node (.rc "f") [(.node (.fn "x") [(.node (.var "x") [])]), (.node (.var one) [])]), rfl, by rw [e72]; exact SqT.of l72, t71, w72, by simp [T.size, T.sizes], by simp [T.deep, T.deeps]⟩
  clear e72 w72
  clear l69 t69 l70 t70 l71 t71 l72
  walk_at "rd"
  intro p73 h73
  have S73 := same_new h73 (.lst [V.ref p72])
  have l73 := @upd_same X72 p73 (.lst [V.ref p72])
  have tlow := Tm.same S73 tlow
  have S0 := Same.trans S0 S73
  have l68 := S73 _ _ l68
  have a68 := fun v m => Itm.same S73 (a68 v m)
  have i72 := Itm.same S73 i72
  clear h73
  generalize upd X72 p73 (.lst [V.ref p72]) = X73 at *
  have a73 : ∀ v ∈ [V.ref p72], Itm K X73 v := fun v m => by
    simp only [List.mem_cons, List.not_mem_nil, or_false] at m
    rcases m with rfl
    · exact i72
  clear i72
  walk_at "rd"
  refine ⟨p68, p73, _, _, rfl, rfl, l68, l73, sz (by simp [len]), fun p74 h74 => ?_⟩
  obtain ⟨vs74, ev⟩ : ∃ vs74, vs74 = vs68 ++ [V.ref p72] := ⟨_, rfl⟩
  have aa74 : ∀ v ∈ vs74, Itm K X73 v := fun v m => by
    rw [ev] at m
    rcases List.mem_append.mp m with m | m
    · exact a68 v m
    · exact a73 v m
  have len74 : vs74.length = 17 := by rw [ev, List.length_append, len]; rfl
  rw [← ev] at *
  clear ev len
  have len := len74
  clear len74
  clear a68 a73 l68 l73
  have S74 := same_new h74 (.lst vs74)
  have l74 := @upd_same X73 p74 (.lst vs74)
  have tlow := Tm.same S74 tlow
  have S0 := Same.trans S0 S74
  have aa74 := fun v m => Itm.same S74 (aa74 v m)
  have a74 := aa74
  clear aa74 h74
  generalize upd X73 p74 (.lst vs74) = X74 at *
  walk_at "rd"
  intro p75 h75
  have S75 := same_new h75 (.tup [V.str "var", V.str one])
  have l75 := @upd_same X74 p75 (.tup [V.str "var", V.str one])
  have tlow := Tm.same S75 tlow
  have S0 := Same.trans S0 S75
  have l74 := S75 _ _ l74
  have a74 := fun v m => Itm.same S75 (a74 v m)
  clear h75
  generalize upd X74 p75 (.tup [V.str "var", V.str one]) = X75 at *
  have t75 : Tm K X75 (.ref p75) (.node (.var one) []) := .var (SqT.of l75)
  walk_at "rd"
  intro p76 h76
  have S76 := same_new h76 (.tup [V.str "fun", V.str "x", V.ref p75])
  have l76 := @upd_same X75 p76 (.tup [V.str "fun", V.str "x", V.ref p75])
  have tlow := Tm.same S76 tlow
  have S0 := Same.trans S0 S76
  have l74 := S76 _ _ l74
  have a74 := fun v m => Itm.same S76 (a74 v m)
  have l75 := S76 _ _ l75
  have t75 := Tm.same S76 t75
  clear h76
  generalize upd X75 p76 (.tup [V.str "fun", V.str "x", V.ref p75]) = X76 at *
  have t76 : Tm K X76 (.ref p76) (.node (.fn "x") [(.node (.var one) [])]) := .fn (SqT.of l76) t75
  walk_at "rd"
  intro p77 h77
  have S77 := same_new h77 (.tup [V.str "rec", V.str "f", V.ref p76, V.ref low])
  have l77 := @upd_same X76 p77 (.tup [V.str "rec", V.str "f", V.ref p76, V.ref low])
  have tlow := Tm.same S77 tlow
  have S0 := Same.trans S0 S77
  have l74 := S77 _ _ l74
  have a74 := fun v m => Itm.same S77 (a74 v m)
  have l75 := S77 _ _ l75
  have t75 := Tm.same S77 t75
  have l76 := S77 _ _ l76
  have t76 := Tm.same S77 t76
  clear h77
  generalize upd X76 p77 (.tup [V.str "rec", V.str "f", V.ref p76, V.ref low]) = X77 at *
  have t77 : Tm K X77 (.ref p77) (.node (.rc "f") [(.node (.fn "x") [(.node (.var one) [])]), (.node (.var "x") [])]) := .rc (SqT.of l77) t76 tlow
  walk_at "rd"
  intro p78 h78
  have S78 := same_new h78 (.tup [V.ref p77, V.str one])
  have l78 := @upd_same X77 p78 (.tup [V.ref p77, V.str one])
  have tlow := Tm.same S78 tlow
  have S0 := Same.trans S0 S78
  have l74 := S78 _ _ l74
  have a74 := fun v m => Itm.same S78 (a74 v m)
  have l75 := S78 _ _ l75
  have t75 := Tm.same S78 t75
  have l76 := S78 _ _ l76
  have t76 := Tm.same S78 t76
  have l77 := S78 _ _ l77
  have t77 := Tm.same S78 t77
  clear h78
  generalize upd X77 p78 (.tup [V.ref p77, V.str one]) = X78 at *
  have e78 : due (.node (.rc "f") [(.node (.fn "x") [(.node (.var one) [])]), (.node (.var "x") [])]) = V.str one := by simp [due, badsOf, T.toks, T.tokss, Hd.toks, sepd, flds, wd, nmW, b1, b2, bx, ba, bf]
  have w78 : Wt (.node (.rc "f") [(.node (.fn "x") [(.node (.var one) [])]), (.node (.var "x") [])]) := by simp [Wt_iff, okHd, okRec, n1, n2, nx, na, nf, a1']
  have i78 : Itm K X78 (.ref p78) := ⟨p78, _, (.node (.rc "f") [(.node (.fn "x") [(.node (.var one) [])]), (.node (.var "x") [])]), rfl, by rw [e78]; exact SqT.of l78, t77, w78, by simp [T.size, T.sizes], by simp [T.deep, T.deeps]⟩
  clear e78 w78
  clear l75 t75 l76 t76 l77 t77 l78
  walk_at "rd"
  intro p79 h79
  have S79 := same_new h79 (.lst [V.ref p78])
  have l79 := @upd_same X78 p79 (.lst [V.ref p78])
  have tlow := Tm.same S79 tlow
  have S0 := Same.trans S0 S79
  have l74 := S79 _ _ l74
  have a74 := fun v m => Itm.same S79 (a74 v m)
  have i78 := Itm.same S79 i78
  clear h79
  generalize upd X78 p79 (.lst [V.ref p78]) = X79 at *
  have a79 : ∀ v ∈ [V.ref p78], Itm K X79 v := fun v m => by
    simp only [List.mem_cons, List.not_mem_nil, or_false] at m
    rcases m with rfl
    · exact i78
  clear i78
  walk_at "rd"
  refine ⟨p74, p79, _, _, rfl, rfl, l74, l79, sz (by simp [len]), fun p80 h80 => ?_⟩
  obtain ⟨vs80, ev⟩ : ∃ vs80, vs80 = vs74 ++ [V.ref p78] := ⟨_, rfl⟩
  have aa80 : ∀ v ∈ vs80, Itm K X79 v := fun v m => by
    rw [ev] at m
    rcases List.mem_append.mp m with m | m
    · exact a74 v m
    · exact a79 v m
  have len80 : vs80.length = 18 := by rw [ev, List.length_append, len]; rfl
  rw [← ev] at *
  clear ev len
  have len := len80
  clear len80
  clear a74 a79 l74 l79
  have lF := @upd_same X79 p80 (.lst vs80)
  have SF : Same X79 (off p80 (upd X79 p80 (.lst vs80))) := fun b o e => by
    have nb : b ≠ p80 := fun z => by rw [z, h80] at e; cases e
    rw [off_ne nb, upd_ne nb]; exact e
  have tlow := tlow.same SF
  have S0 := S0.trans SF
  have aF := fun v m => Itm.same SF (aa80 v m)
  have kF := kA.trans (S0.keep (s := s))
  have cF := c2.same S0
  clear aa80 SF S0 h80 c2 kA
  generalize upd X79 p80 (.lst vs80) = X0 at *
  generalize p80 = F at *
  generalize vs80 = vs0 at *
  walk_at "rd"
  refine for_it walk_range (fun i σ X => ∃ (vs : List V) (s6 s7 : Option V), σ = [some (.ref s), some (.ref pw), some (.str one), some (.str two), some (.ref low), some (.ref F), s6, s7, none, none] ∧ X F = some (.lst vs) ∧ vs.length ≤ 30 + 6 * i ∧ Same (off F X0) (off F X) ∧ ∀ v ∈ vs, Itm K (off F X) v) ⟨vs0, none, none, rfl, lF, by omega, Same.refl _, aF⟩ (fun _ _ _ _ _ => trivial) ?_ ?_
  · rintro i x σ X X' hi ⟨vs, s6, s7, rfl, g1, g2, g3, g4⟩ hy
    obtain ⟨rfl, rfl⟩ := hy
    refine ⟨_, rfl, ?_⟩
    walk_at "rd"
    have hi6 : i < 6 := by omega
    obtain ⟨lo, elo, lo1⟩ : ∃ lo : Int, (if (1 : Int) - (0 + (i : Nat)) > 0 then (1 : Int) - (0 + (i : Nat)) else 0) = lo ∧ ((lo = 1 ∧ i = 0) ∨ (lo = 0 ∧ 1 ≤ i)) := by
      by_cases z : (1 : Int) - (0 + (i : Nat)) > 0
      · rw [if_pos z]; exact ⟨_, rfl, by omega⟩
      · rw [if_neg z]; exact ⟨_, rfl, by omega⟩
    refine ⟨0, 1 - (0 + (i : Nat)), rfl, ?_⟩
    rw [elo]
    clear elo
    walk_at "rd"
    refine ⟨_, _, rfl, ⟨by omega, by omega, by omega, by omega⟩, ?_⟩
    refine for_it walk_range (fun j σ X => ∃ (vs : List V) (s7 : Option V), σ = [some (.ref s), some (.ref pw), some (.str one), some (.str two), some (.ref low), some (.ref F), some (.int (0 + (i : Nat))), s7, none, none] ∧ X F = some (.lst vs) ∧ vs.length ≤ 30 + 6 * i + j ∧ Same (off F X0) (off F X) ∧ ∀ v ∈ vs, Itm K (off F X) v) ⟨vs, _, rfl, g1, by omega, g3, g4⟩ (fun _ _ _ _ _ => trivial) ?_ ?_
    · intro j x σ X X' hj hP hy
      obtain ⟨vs, s7, hσ, g1, g2, g3, g4⟩ := hP
      subst hσ
      obtain ⟨hx1, hx2⟩ := hy
      subst hx1
      subst hx2
      obtain ⟨m, em, m1, m2⟩ : ∃ m : Nat, lo + (j : Nat) = (m : Int) ∧ 1 ≤ i + m ∧ i + m ≤ 5 := ⟨(lo + (j : Nat)).toNat, by omega, by omega, by omega⟩
      refine turn_ok (i := i) (m := m) (a := 0 + (i : Nat)) (b := lo + (j : Nat)) (by omega) em n1 b1 m1 m2 tlow g1 (by omega) g3 g4 fun vs' X'' h1 h2 h3 h4 => ?_
      exact ⟨vs', _, rfl, h1, by omega, h3, h4⟩
    · intro σ X hP
      obtain ⟨vs, s7, hσ, g1, g2, g3, g4⟩ := hP
      subst hσ
      walk_at "rd"
      refine ⟨vs, _, _, rfl, g1, ?_, g3, g4⟩
      omega
  rintro σ X ⟨vs, s6, s7, rfl, g1, g2, g3, g4⟩
  walk_at "rd"
  refine ⟨⟨_, SqL.of g1⟩, ?_⟩
  refine for_list (K := K) (a := F) (xs := vs) (fun i σ Y => ∃ (s8 s9 : Option V), σ = [some (.ref s), some (.ref pw), some (.str one), some (.str two), some (.ref low), some (.ref F), s6, s7, s8, s9] ∧ Same X Y) ⟨none, none, rfl, Same.refl _⟩ (fun i σ Y hi ⟨_, _, _, g⟩ => g.seq (SqL.of g1)) ?_ ?_
  · rintro i v σ Y hv ⟨s8, s9, rfl, g⟩
    obtain ⟨b, u, t, rfl, h1, h2, h3, h4, h5⟩ := (g4 v (List.mem_of_getElem? hv)).same (off_same.trans g)
    refine ⟨b, _, rfl, h1, rfl, ?_⟩
    refine ⟨_, _, rfl, ⟨_, _, rfl, rfl, ?_⟩⟩
    walk_at "rd"
    refine ⟨u, t, Y, rfl, Same.refl _, h2, h3, h4, h5, fun Y1 S1 => ?_⟩
    walk_at "rd"
    refine ⟨u, t, rfl, h2.same S1, h3, h4, h5, fun Y2 S2 => ?_⟩
    walk_at "rd"
    refine ⟨by unfold due; split <;> rfl, _, rfl, ?_⟩
    refine ifF (by simp) ?_
    walk_at "rd"
    exact ⟨_, _, rfl, g.trans (S1.trans S2)⟩
  rintro σ Y ⟨s8, s9, rfl, g⟩
  have kY : Keep s H Y := by
    refine Keep.trans ?_ g.keep
    exact (kF.same g3).same off_same
  have cY : Src Y s := ((cF.same g3).same off_same).same g
  clear g1 g2 g3 g4 kF cF g aF lF
  walk_at "rd"
  intro p81 h81
  have S81 := same_new h81 (.tup [V.str "var", V.str "ofx"])
  have l81 := @upd_same Y p81 (.tup [V.str "var", V.str "ofx"])
  have kY := kY.same S81
  have cY := cY.same S81
  clear h81 S81
  generalize upd Y p81 (.tup [V.str "var", V.str "ofx"]) = X81 at *
  walk_at "rd"
  intro p82 h82
  have S82 := same_new h82 (.tup [V.str "var", V.str "lets"])
  have l82 := @upd_same X81 p82 (.tup [V.str "var", V.str "lets"])
  have kY := kY.same S82
  have cY := cY.same S82
  have l81 := S82 _ _ l81
  clear h82 S82
  generalize upd X81 p82 (.tup [V.str "var", V.str "lets"]) = X82 at *
  walk_at "rd"
  intro p83 h83
  have S83 := same_new h83 (.tup [V.str "fun", V.str "inn", V.ref p82])
  have l83 := @upd_same X82 p83 (.tup [V.str "fun", V.str "inn", V.ref p82])
  have kY := kY.same S83
  have cY := cY.same S83
  have l81 := S83 _ _ l81
  have l82 := S83 _ _ l82
  clear h83 S83
  generalize upd X82 p83 (.tup [V.str "fun", V.str "inn", V.ref p82]) = X83 at *
  walk_at "rd"
  intro p84 h84
  have S84 := same_new h84 (.tup [V.str "app", V.ref p81, V.ref p83])
  have l84 := @upd_same X83 p84 (.tup [V.str "app", V.ref p81, V.ref p83])
  have kY := kY.same S84
  have cY := cY.same S84
  have l81 := S84 _ _ l81
  have l82 := S84 _ _ l82
  have l83 := S84 _ _ l83
  clear h84 S84
  generalize upd X83 p84 (.tup [V.str "app", V.ref p81, V.ref p83]) = X84 at *
  walk_at "rd"
  have tz : Tm K X84 (.ref p84) (.node .app [.node (.var "ofx") [], .node (.fn "inn") [.node (.var "lets") []]]) := .app (SqT.of l84) (.var (SqT.of l81)) (.fn (SqT.of l83) (.var (SqT.of l82)))
  refine ⟨.ref p84, _, rfl, tz, app_due.1, app_due.2.1, app_due.2.2.1, fun Y2 S2 => ?_⟩
  walk_at "rd"
  rw [app_due.2.2.2]
  walk_at "rd"
  exact q Y2 (kY.same S2) (cY.same S2)
end
end Vt


set_option Elab.async false
set_option linter.all false
set_option maxRecDepth 100000
set_option maxHeartbeats 4000000

namespace Vt
open PySem PySem.Spec PyProof.Rows L2
/-! ### names that are names in texts, in all of a term -/
theorem Wnm.pure : ∀ {t : T}, Wnm t → Pure t := by
  intro t w
  induction w with
  | @mk h ks a b c ih =>
    intro x m e
    have nw : ∀ y : Str, wd y ≠ x := fun y z => by rw [← z] at e; cases e
    have nw' : ∀ y : Str, x ≠ wd y := fun y z => by rw [z] at e; cases e
    cases h with
    | var n =>
      obtain rfl := List.eq_nil_of_length_eq_zero a.1
      simp only [T.toks, T.tokss, Hd.toks, List.mem_singleton] at m
      rw [m]
      exact a.2.2
    | int k =>
      obtain rfl := List.eq_nil_of_length_eq_zero a.1
      simp only [T.toks, T.tokss, Hd.toks, List.mem_singleton] at m
      exact absurd m (nw' _)
    | bool k =>
      obtain rfl := List.eq_nil_of_length_eq_zero a
      simp only [T.toks, T.tokss, Hd.toks, List.mem_singleton] at m
      exact absurd m (nw' _)
    | tup =>
      simp only [T.toks, Hd.toks, List.mem_cons, List.mem_append, List.not_mem_nil, or_false] at m
      rcases m with m | m | m
      · exact absurd m (nw' _)
      · rcases mem_sepd m with m | ⟨l, ml, mx⟩
        · exact absurd m (nw' _)
        · obtain ⟨t, mt, rfl⟩ := mem_tokss ml
          exact ih t mt x mx e
      · exact absurd m (nw' _)
    | record ls =>
      simp only [T.toks, Hd.toks, List.mem_cons, List.mem_append, List.not_mem_nil, or_false] at m
      rcases m with m | m | m
      · exact absurd m (nw' _)
      · rcases mem_sepd m with m | ⟨l, ml, mx⟩
        · exact absurd m (nw' _)
        · obtain ⟨n, hn, bb, hb, rfl⟩ := mem_flds ml
          obtain ⟨t, mt, rfl⟩ := mem_tokss hb
          simp only [List.mem_cons] at mx
          rcases mx with rfl | mx | mx
          · exact (a.2.2.1 n hn).2
          · exact absurd mx (nw' _)
          · exact ih t mt x mx e
      · exact absurd m (nw' _)
    | app =>
      obtain ⟨t1, t2, rfl⟩ := len_two a
      simp only [T.toks, T.tokss, Hd.toks, List.mem_cons, List.mem_append, List.not_mem_nil, or_false] at m
      rcases m with m | m | m | m
      all_goals first | exact absurd m (nw' _) | exact ih t1 (by simp) x m e | exact ih t2 (by simp) x m e
    | cond =>
      obtain ⟨t1, t2, t3, rfl⟩ := len_three a
      simp only [T.toks, T.tokss, Hd.toks, List.mem_cons, List.mem_append, List.not_mem_nil, or_false] at m
      rcases m with m | m | m | m | m | m | m | m
      all_goals first | exact absurd m (nw' _) | exact ih t1 (by simp) x m e | exact ih t2 (by simp) x m e | exact ih t3 (by simp) x m e
    | fn n =>
      obtain ⟨t1, rfl⟩ := List.length_eq_one_iff.mp a.1
      simp only [T.toks, T.tokss, Hd.toks, List.mem_cons, List.mem_append, List.not_mem_nil, or_false] at m
      rcases m with m | m | m | m | m | m
      all_goals first | exact absurd m (nw' _) | (rw [m]; exact a.2.2) | exact ih t1 (by simp) x m e
    | part i z =>
      obtain ⟨t1, rfl⟩ := List.length_eq_one_iff.mp a.1
      simp only [T.toks, T.tokss, Hd.toks, List.mem_cons, List.mem_append, List.not_mem_nil, or_false] at m
      rcases m with m | m | m | m | m | m
      all_goals first | exact absurd m (nw' _) | exact ih t1 (by simp) x m e
    | field n =>
      obtain ⟨t1, rfl⟩ := List.length_eq_one_iff.mp a.1
      simp only [T.toks, T.tokss, Hd.toks, List.mem_cons, List.mem_append, List.not_mem_nil, or_false] at m
      rcases m with m | m | m | m | m
      all_goals first | exact absurd m (nw' _) | (rw [m]; exact a.2.2) | exact ih t1 (by simp) x m e
    | lt n =>
      obtain ⟨t1, t2, rfl⟩ := len_two a.1
      simp only [T.toks, T.tokss, Hd.toks, List.mem_cons, List.mem_append, List.not_mem_nil, or_false] at m
      rcases m with m | m | m | m | m | m | m | m
      all_goals first | exact absurd m (nw' _) | (rw [m]; exact a.2.2) | exact ih t1 (by simp) x m e | exact ih t2 (by simp) x m e
    | rc n =>
      obtain ⟨t1, t2, rfl⟩ := len_two a.1
      simp only [T.toks, T.tokss, Hd.toks, List.mem_cons, List.mem_append, List.not_mem_nil, or_false] at m
      rcases m with m | m | m | m | m | m | m | m
      all_goals first | exact absurd m (nw' _) | (rw [m]; exact a.2.2) | exact ih t1 (by simp) x m e | exact ih t2 (by simp) x m e
    | wth n =>
      obtain ⟨t1, t2, rfl⟩ := len_two a.1
      simp only [T.toks, T.tokss, Hd.toks, List.mem_cons, List.mem_append, List.not_mem_nil, or_false] at m
      rcases m with m | m | m | m | m | m | m
      all_goals first | exact absurd m (nw' _) | (rw [m]; exact a.2.2) | exact ih t1 (by simp) x m e | exact ih t2 (by simp) x m e
/-- f(k = v, ..), nothing by place -/
def tKw (m : Nat) (sp : Sp) (gV : List V → List V → List V) (E : XK) (tk : TA) : TE := fun σ H Q => tk σ H fun zs H2 => zs.length = m ∧ sp (gV [] zs) H2 Q E
section
variable {X : Cx} {CX : CXT} {k : Nat} {f : Addr} {fd : FuncData} {ps ks : List Str} {sp : Sp} {E : XK} {x : Str} {p pos : Pos} {kws : List Keyword} {tk : TA} {g : List Value → List Value → List Value} {gV : List V → List V → List V}
theorem pe_kw0 (F : FnOk X.prog X.w X.K X.mg X.base CX k f fd ps sp) (hr : Room k X.A) (hg : Gl X x) (hm : X.mg x = some (.ref f)) (hk : PySem.W.keepIn X.K (.ref f) = true) (hb : KBn X.K fd ps 0 ks g gV) (hx : Passes CX X E) (hkw : PK X kws tk)
    (hall : (backToKw pos (keywordEach kws X.env)).all (·.1.isSome) = true := by rfl) (hks : (backToKw pos (keywordEach kws X.env)).filterMap (·.1) = ks := by rfl) (hdb : (x == ("__debug__" : Str)) = false := by decide)
    (hpl : ((backTo pos (starEach [] X.env)).any (·.1) || (backToKw pos (keywordEach kws X.env)).any (·.1.isNone)) = false := by rfl) : PE X (.Call (.Name x p) [] kws pos) (tKw ks.length sp gV E tk) := by
  refine ⟨fun pins s σ H Q I h => wpAny_Call_Name_kw (ld_glob I hg hm (PySem.W.callWith_KW0 (h₀ := X.base) I.ok.mod.kin hk hall (thn (hkw.run pos pins s σ H _ I h) fun ws s2 out => ?_) hpl) hdb)⟩
  obtain ⟨zs, H2, I2, rz, l, q⟩ := out
  refine ⟨I2.kIn, ?_⟩
  rw [hks]
  exact run_fnN (us := []) (vs := []) F hr hb hx I2 .nil rz rfl l q
end
theorem kp_same {s : Addr} {G H H' : Hp} (h : Same G H) (hs : G s = none) (k : Keep s H H') : Same G H' := fun b o e => k b o (ne_of_none e hs) (h b o e)
def spLaw (K : PySem.W.Frag) : Sp := fun vs H Q _ => ∃ (a : Addr) (ns : List Int), vs = [.ref a] ∧ SqL K H a (ns.map V.int) ∧ ns.length ≤ 900 ∧ ∀ H', Q (.bl true) H'
abbrev s_law : Stmt := topS 81
abbrev N_law : List Str := ["script", "cell", "source", "low", "term_here", "line_text"]
theorem sc_law : FnScope N_law ["script"] (defScope s_law) := ⟨rfl, rfl, rfl, by decide +kernel, rfl, by decide +kernel, by decide +kernel⟩
section
variable {P : Program} {w : World} {K : PySem.W.Frag} {mg : Str → Option Value} {base : Heap}
theorem ok_law {m : Nat} {f : Addr} {fd : FuncData} (F : Fun K "law" "law" s_law f fd) (Z : Blt mg)
    (H_law_cell_at : DefOk P w K mg base CX0 m "_law_cell_at" ["script", "index"] (spCell K))
    (H_law_next : DefOk P w K mg base CX0 m "_law_next" ["source", "many"] (spNext))
    (H_law_term : DefOk P w K mg base CX0 m "_law_term" ["source", "names", "deep"] (spTerm K 5))
    (H_law_source_of : DefOk P w K mg base CX0 m "_law_source_of" ["cell"] (spSource))
    (H_law_wide : DefOk P w K mg base CX0 m "_law_wide" ["source", "deep"] (spWide K 3))
    (H_law_words : DefOk P w K mg base CX0 m "_law_words" ["node"] (spWords K 20))
    (H_law_names_right : DefOk P w K mg base CX0 m "_law_names_right" ["source"] spNamesRight)
    (H_term_text : ∃ f fd, FnOk P w K mg base CX0 m f fd ["term"] (spText K) ∧ mg "term_text" = some (.ref f) ∧ PySem.W.keepIn K (.ref f) = true ∧ Binds K fd ["term"] [] ∧ KBn K fd ["term"] 0 ["term"] (fun _ ws => ws) (fun _ zs => zs))
    (H_read_term : ∃ f fd, FnOk P w K mg base CX0 m f fd ["text"] (spRead K) ∧ mg "read_term" = some (.ref f) ∧ PySem.W.keepIn K (.ref f) = true ∧ Binds K fd ["text"] [] ∧ KBn K fd ["text"] 0 ["text"] (fun _ ws => ws) (fun _ zs => zs)) :
    FnG P w K mg base CX0 (m + 1) f fd ["script"] (spLaw K) := by
  have z_repr := Z.repr
  obtain ⟨f_law_cell_at, fd_law_cell_at, G_law_cell_at, m_law_cell_at, k_law_cell_at, b_law_cell_at⟩ := H_law_cell_at
  obtain ⟨f_law_next, fd_law_next, G_law_next, m_law_next, k_law_next, b_law_next⟩ := H_law_next
  obtain ⟨f_law_term, fd_law_term, G_law_term, m_law_term, k_law_term, b_law_term⟩ := H_law_term
  obtain ⟨f_law_source_of, fd_law_source_of, G_law_source_of, m_law_source_of, k_law_source_of, b_law_source_of⟩ := H_law_source_of
  obtain ⟨f_law_wide, fd_law_wide, G_law_wide, m_law_wide, k_law_wide, b_law_wide⟩ := H_law_wide
  obtain ⟨f_law_words, fd_law_words, G_law_words, m_law_words, k_law_words, b_law_words⟩ := H_law_words
  obtain ⟨f_law_names_right, fd_law_names_right, G_law_names_right, m_law_names_right, k_law_names_right, b_law_names_right⟩ := H_law_names_right
  obtain ⟨f_term_text, fd_term_text, G_term_text, m_term_text, k_term_text, b_term_text, kb_term_text⟩ := H_term_text
  obtain ⟨f_read_term, fd_read_term, G_read_term, m_read_term, k_read_term, b_read_term, kb_read_term⟩ := H_read_term
  have nd := sc_law.nd
  refine fnG F sc_law (fun vs H Q E h => ?_) (fun cdv A outer s0 H vs Q E gd hr h => ?_)
  · obtain ⟨a, ns, rfl, _⟩ := h
    rfl
  obtain ⟨a, ns, rfl, ha, hn, q⟩ := h
  have hu : (A.deeper (envOfC "law" (defScope s_law) s0.heap.objs.size f cdv)).units + 64 < cLine := by have := hr.un; omega
  refine ⟨_, (pss_cons (ps_for PassesOwn.never rfl (pi_list (pe_op op_cat (pe_lst (pa_cons (pe_call G_law_cell_at (hr) rfl m_law_cell_at k_law_cell_at b_law_cell_at .nil pass0 (pa_cons (pv 0) (pa_cons pe_int pa_nil))) pa_nil)) (pe_slice sl_list (pv 0) (po_some pe_int) (po_some pe_int)))) (pg_name (i := 1) nd rfl (Or.inl rfl)) (pss_cons (ps_set (i := 2) nd rfl (Or.inl rfl) (pe_call G_law_source_of (hr) rfl m_law_source_of k_law_source_of b_law_source_of .nil pass0 (pa_cons (pv 1) pa_nil)))
      (pss_cons (ps_set (i := 3) nd rfl (Or.inl rfl) (pe_call G_law_term (hr) rfl m_law_term k_law_term b_law_term .nil pass0 (pa_cons (pv 2) (pa_cons (pe_lst pa_nil) (pa_cons (pe_op op_add pe_int (pe_call G_law_next (hr) rfl m_law_next k_law_next b_law_next .nil pass0 (pa_cons (pv 2) (pa_cons pe_int pa_nil)))) pa_nil)))))
      (pss_cons (ps_for PassesOwn.never rfl (pi_list (pe_lst (pa_cons (pv 3) (pa_cons (pe_call G_law_wide (hr) rfl m_law_wide k_law_wide b_law_wide .nil pass0 (pa_cons (pv 2) (pa_cons (pe_op op_add pe_int (pe_call G_law_next (hr) rfl m_law_next k_law_next b_law_next .nil pass0 (pa_cons (pv 2) (pa_cons pe_int pa_nil)))) pa_nil))) pa_nil)))) (pg_name (i := 4) nd rfl (Or.inl rfl)) (pss_cons (ps_set (i := 5) nd rfl (Or.inl rfl) (pe_bm PySem.F.plainAttrs_str PySem.F.slot_str_join PySem.F.type_str_join mt_join pe_str (pa_cons (pe_call G_law_words (hr) rfl m_law_words k_law_words b_law_words .nil pass0 (pa_cons (pv 4) pa_nil)) pa_nil)))
      (pss_cons (ps_if (PW.pt (pw_or (pt_cmpR op_ne (pe_call G_term_text (hr) rfl m_term_text k_term_text b_term_text .nil pass0 (pa_cons (pv 4) pa_nil)) (pv 5) (nomark _)) (pw_or1 (pt_cmpR op_ne (pe_kw0 G_term_text (hr) rfl m_term_text k_term_text kb_term_text pass0 (pk_cons (pv 4) pk_nil)) (pv 5) (nomark _))))) (pss_one (ps_ret pe_bl)) pss_nil)
      (pss_cons (ps_if (PW.pt (pw_or (pt_cmpR (op_neD hu) (pe_call G_read_term (hr) rfl m_read_term k_read_term b_read_term .nil pass0 (pa_cons (pv 5) pa_nil)) (pv 4) (nomark _)) (pw_or1 (pt_cmpR (op_neD hu) (pe_kw0 G_read_term (hr) rfl m_read_term k_read_term kb_read_term pass0 (pk_cons (pv 5) pk_nil)) (pv 4) (nomark _))))) (pss_one (ps_ret pe_bl)) pss_nil)
      (pss_one (ps_if (pt_cmpR op_ne (pe_callB (call_reprG gd hu) (by rfl) z_repr (by decide +kernel) (pa_cons (pe_call G_read_term (hr) rfl m_read_term k_read_term b_read_term .nil pass0 (pa_cons (pv 5) pa_nil)) pa_nil)) (pe_callB (call_reprG gd hu) (by rfl) z_repr (by decide +kernel) (pa_cons (pv 4) pa_nil)) (nomark _)) (pss_one (ps_ret pe_bl)) pss_nil))))))
      (pss_one (ps_if (pt_not (pt_val (pe_call G_law_names_right (hr) rfl m_law_names_right k_law_names_right b_law_names_right .nil pass0 (pa_cons (pv 2) pa_nil)))) (pss_one (ps_ret pe_bl)) pss_nil))))))
      (pss_one (ps_ret pe_bl))), ?_⟩
  walk_at "rd"
  refine ⟨a, ns, rfl, ha, hn, fun i0 H1 S1 => ?_⟩
  walk_at "rd"
  intro p1 hp1
  have S2 := S1.trans (same_new hp1 (.lst [V.int i0]))
  have l1 := @upd_same H1 p1 (.lst [V.int i0])
  clear hp1
  generalize upd H1 p1 (.lst [V.int i0]) = H2 at *
  walk_at "rd"
  refine ⟨a, _, rfl, S2.seq ha, fun p2 hp2 => ?_⟩
  have S3 := S2.trans (same_new hp2 (.lst (cutV (ns.map V.int) (some 1) (some 6))))
  have l2 := @upd_same H2 p2 (.lst (cutV (ns.map V.int) (some 1) (some 6)))
  have l1' := (same_new hp2 (.lst (cutV (ns.map V.int) (some 1) (some 6)))) _ _ l1
  have n2 : (cutV (ns.map V.int) (some 1) (some 6)).length ≤ 900 := Nat.le_trans (cutV_length _ _ _) (by rw [List.length_map]; exact hn)
  have hcut : ∀ v ∈ V.int i0 :: cutV (ns.map V.int) (some 1) (some 6), ∃ c : Int, v = .int c := fun v hv => by
    rcases List.mem_cons.mp hv with e | hv
    · exact ⟨_, e⟩
    · obtain ⟨c, _, e⟩ := List.mem_map.mp (mem_cut hv)
      exact ⟨c, e.symm⟩
  clear hp2 l1
  generalize upd H2 p2 (.lst (cutV (ns.map V.int) (some 1) (some 6))) = H3 at *
  generalize cutV (ns.map V.int) (some 1) (some 6) = cells at *
  refine ⟨p1, p2, _, _, rfl, rfl, l1', l2, sz (by simp; omega), fun p3 hp3 => ?_⟩
  have l3 := @upd_same H3 p3 (.lst ([V.int i0] ++ cells))
  generalize upd H3 p3 (.lst ([V.int i0] ++ cells)) = H4 at *
  clear S1 S2 S3 l1' l2 hp3
  refine ⟨p3, rfl, ⟨_, SqL.of l3⟩, ?_⟩
  refine for_list (K := K) (a := p3) (xs := [V.int i0] ++ cells) (fun i σ X => ∃ s1 s2 s3 s4 s5 : Option V, σ = [some (.ref a), s1, s2, s3, s4, s5] ∧ Same H4 X)
    ⟨none, none, none, none, none, rfl, Same.refl _⟩ (fun i σ X hi ⟨_, _, _, _, _, _, g⟩ => SqL.of (g _ _ l3)) ?_ ?_
  · rintro i x σ X hx ⟨s1, s2, s3, s4, s5, rfl, g⟩
    obtain ⟨c, rfl⟩ := hcut x (List.mem_of_getElem? hx)
    walk_at "rd"
    intro s X1 g1 hsrc hs0
    have gX1 := g.trans g1
    have h4s : H4 s = none := g.fr hs0
    walk_at "rd"
    intro pl hpl
    have src1 : Src (upd X1 pl (.lst [])) s := hsrc.new hpl
    have hl1 := @upd_same X1 pl (.lst [])
    have gX2 : Same H4 (upd X1 pl (.lst [])) := gX1.trans (same_new hpl _)
    clear hpl
    generalize upd X1 pl (.lst []) = X2 at *
    walk_at "rd"
    refine ⟨s, 4, rfl, src1, by decide, by decide, fun d0 X3 d1 d2 k2 src2 => ?_⟩
    walk_at "rd"
    obtain ⟨j, rfl⟩ := Int.eq_ofNat_of_zero_le d1
    have hl3 : X3 pl = some (.lst []) := k2.list src1 (no3_strs []) hl1
    have gX3 := kp_same gX2 h4s k2
    refine ⟨s, pl, [], j + 1, by show [V.ref s, V.ref pl, V.int ((1 : Int) + (j : Int))] = _; rw [show ((1 : Int) + (j : Int)) = ((j + 1 : Nat) : Int) by omega], src2, hl3, (fun x hx => by cases hx), by omega, by omega, by simp; omega, fun v X4 t k3 src3 tm dr => ?_⟩
    obtain ⟨wf, tsz, tdp, tsc⟩ := dr
    have tsz : t.size ≤ 400 := by
      refine Nat.le_trans tsz ?_
      rcases (show j = 0 ∨ j = 1 ∨ j = 2 ∨ j = 3 by omega) with rfl | rfl | rfl | rfl <;> decide
    have gX4 := kp_same gX3 h4s k3
    walk_at "rd"
    refine ⟨s, 2, rfl, src3, by decide, by decide, fun d6 X6 d3 d4 k6 src6 => ?_⟩
    walk_at "rd"
    obtain ⟨j2, rfl⟩ := Int.eq_ofNat_of_zero_le d3
    have gX6 := kp_same gX4 h4s k6
    refine ⟨s, j2 + 1, by show [V.ref s, V.int ((1 : Int) + (j2 : Int))] = _; rw [show ((1 : Int) + (j2 : Int)) = ((j2 + 1 : Nat) : Int) by omega], src6, by omega, by omega, fun v7 X7 t7 k7 src7 tm7 br7 => ?_⟩
    obtain ⟨w7, z7, p7⟩ := br7
    have z7 : t7.size ≤ 400 := by
      refine Nat.le_trans z7 ?_
      rcases (show j2 = 0 ∨ j2 = 1 by omega) with rfl | rfl <;> decide
    have tA : Tm K X7 v t := (tm.same (nw_keep (k6.trans k7) src2)).same nw_sub
    have tB : Tm K X7 v7 t7 := tm7.same nw_sub
    have gX7 := kp_same gX6 h4s k7
    walk_at "rd"
    intro p8 hp8
    have S8 := same_new hp8 (.lst [v, v7])
    have l8 := @upd_same X7 p8 (.lst [v, v7])
    have tA := tA.same S8
    have tB := tB.same S8
    have gX8 := gX7.trans S8
    have src8 := src7.same S8
    clear hp8 S8
    generalize upd X7 p8 (.lst [v, v7]) = X8 at *
    refine ⟨p8, rfl, ⟨_, SqL.of l8⟩, ?_⟩
    have hall : ∀ u ∈ [v, v7], ∃ t, Tm K X8 u t ∧ Wt t ∧ Pure t ∧ t.size ≤ 400 ∧ t.deep ≤ 20 := fun u hu' => by
      simp only [List.mem_cons, List.not_mem_nil, or_false] at hu'
      rcases hu' with rfl | rfl
      · exact ⟨t, tA, wf.wn.wt, wf.wn.pure, tsz, by omega⟩
      · exact ⟨t7, tB, w7.wt, w7.pure, z7, by omega⟩
    refine for_list (K := K) (a := p8) (xs := [v, v7]) (fun i σ Y => ∃ s4 s5 : Option V, σ = [some (.ref a), some (.int c), some (.ref s), some v, s4, s5] ∧ Same X8 Y) ⟨_, _, rfl, Same.refl _⟩ (fun i σ Y hi ⟨_, _, _, g⟩ => g.seq (SqL.of l8)) ?_ ?_
    · clear tA tB gX7 gX6 gX4 gX3 gX2 gX1 tm tm7 hl1 hl3 src1 src2 src3 src6 src7 k2 k3 k6 k7 hsrc
      rintro i u σ Y hu' ⟨s4, s5, rfl, gY⟩
      obtain ⟨tt, tm0, wt, pu, sz0, dp0⟩ := hall u (List.mem_of_getElem? hu')
      have tm1 := tm0.same gY
      have wl := wds_len wt sz0
      have xx := data_tx _ tt (Nat.le_refl _) wt
      have sh := xx.sh
      have dd := xx.dp
      have ss := xx.sz
      walk_at "rd"
      refine ⟨u, tt, Y, rfl, Same.refl _, tm1, wt, sz0, dp0, fun r Y1 S1 hr1 l1 => ?_⟩
      walk_at "rd"
      refine ⟨_, r, tt.wds, rfl, rfl, .inl (SqL.of l1), ?_, ?_⟩
      · have z := sum_le (m := 32) (l := tt.wds) fun x m => (wds_fine wt x m).1
        have hs1 : (" " : Str).length = 1 := rfl
        show (tt.wds.map (·.length)).sum + tt.wds.length * (" " : Str).length ≤ 16777216
        rw [hs1, Nat.mul_one]
        omega
      change gName 5 (V.str tt.text) _ _ _
      have tm2 := tm1.same S1
      have gY1 := gY.trans S1
      clear S1 hr1 l1 tm1 gY
      walk_at "rd"
      refine ⟨u, tt, rfl, tm2, wt, pu, sz0, by omega, fun Y2 S2 => ?_⟩
      have tm3 := tm2.same S2
      have gY2 := gY1.trans S2
      clear S2 tm2 gY1
      walk_at "rd"
      refine ifF (by simp) ?_
      walk_at "rd"
      refine ⟨u, tt, rfl, tm3, wt, pu, sz0, by omega, fun Y3 S3 => ?_⟩
      have tm4 := tm3.same S3
      have gY3 := gY2.trans S3
      clear S3 tm3 gY2
      walk_at "rd"
      refine ifF (by simp) ?_
      walk_at "rd"
      intro u4 Y4 S4 tu4
      have tm5 := tm4.same S4
      have gY4 := gY3.trans S4
      clear S4 tm4 gY3
      walk_at "rd"
      refine term_ne wt dp0 tu4 tm5 ?_
      refine ⟨_, rfl, ?_⟩
      clear tu4 u4
      refine ifF rfl ?_
      walk_at "rd"
      intro u6 Y6 S6 tu6
      have tm7 := tm5.same S6
      have gY6 := gY4.trans S6
      clear S6 tm5 gY4
      walk_at "rd"
      refine term_ne wt dp0 tu6 tm7 ?_
      refine ⟨_, rfl, ?_⟩
      clear tu6 u6
      refine ifF rfl ?_
      walk_at "rd"
      intro u8 Y8 S8 tu8
      have tm9 := tm7.same S8
      have gY8 := gY6.trans S8
      clear S8 tm7 gY6
      have hlen : 200000 < sizeLine := by decide +kernel
      walk_at "rd"
      refine ⟨u8, tt.data, rfl, .inl tu8.dp, sh, by omega, by omega, ?_⟩
      walk_at "rd"
      refine ⟨u, tt.data, rfl, .inl tm9.dp, sh, by omega, by omega, ?_⟩
      walk_at "rd"
      refine ifF (by simp) ?_
      exact ⟨_, _, rfl, gY8⟩
    · rintro σ Y ⟨s4, s5, rfl, gY⟩
      walk_at "rd"
      refine ⟨src8.same gY, fun Y1 k9 c9 => ?_⟩
      refine ⟨_, rfl, ?_⟩
      refine ifF (show (!true) = false from rfl) ?_
      exact ⟨_, _, _, _, _, rfl, kp_same (gX8.trans gY) h4s k9⟩
  · rintro σ X ⟨s1, s2, s3, s4, s5, rfl, g⟩
    walk_at "rd"
    exact q _
end
end Vt


set_option Elab.async false
set_option linter.all false
set_option maxRecDepth 100000
set_option maxHeartbeats 4000000
namespace Vt
open PySem PySem.Spec PyProof.Rows L2
/-! ### all of the defs as they stand behind the top -/
theorem ok_void {P : Program} {w : World} {K : PySem.W.Frag} {mg : Str → Option Value} {base : Heap} {k : Nat} {x : Str} {st : Stmt} {ps : List Str} {sp : Sp} {CX : CXT} (S : Stands K mg x st ps) (h : ∀ vs H Q E, ¬ sp vs H Q E) : DefOk P w K mg base CX k x ps sp := by
  obtain ⟨f, fd, F, hm, hb⟩ := S
  exact ⟨f, fd, ⟨fun vs H Q E z => (h _ _ _ _ z).elim, fun A outer s H args us vs Q E _ _ _ _ z => (h _ _ _ _ z).elim⟩, hm, F.kp, hb⟩
theorem DefOk.mono {P : Program} {w : World} {K : PySem.W.Frag} {mg : Str → Option Value} {base : Heap} {CX : CXT} {j k : Nat} {x : Str} {ps : List Str} {sp : Sp} (D : DefOk P w K mg base CX j x ps sp) (h : j ≤ k) : DefOk P w K mg base CX k x ps sp := by
  obtain ⟨f, fd, F, hm, hk, hb⟩ := D
  exact ⟨f, fd, F.mono h, hm, hk, hb⟩
theorem stands {K : PySem.W.Frag} {mg : Str → Option Value} {h : Heap} {x : Str} {st : Stmt} {ps : List Str} {f : Addr} {oc : Value} {od an : Option Addr} {sl : Array (Option Value)} {kV dc pm cd ct : Value} (X : K.In h) (G : h.Ns mainGlobals mg) (a : PySem.W.nsIn K mainGlobals x = some (some (.ref f)))
    (l : K.lookup f = some ⟨oc, od, .func (PySem.W.fnOf x x (defArgs st) (defBody st) (defScope st) .none kV dc pm an cd ct), sl⟩) (c : PySem.W.codeIn K cd x = true) (k : PySem.W.keepIn K (.ref f) = true)
    (b : ∀ (kV doc pm : Value) (an : Option Addr) (cdv ct : Value) (us : List Value), us.length = ps.length → bindArgs (PySem.W.fnOf x x (defArgs st) (defBody st) (defScope st) .none kV doc pm an cdv ct) ⟨us, []⟩ = pure (ps.zip us)) : Stands K mg x st ps :=
  ⟨f, _, fun_mk l c k, PySem.W.mg_of X G a, (fun_mk l c k).binds b⟩
/-- the law's own defs -/
structure LawDefs (K : PySem.W.Frag) (mg : Str → Option Value) : Prop where
  law_next_ : Stands K mg "_law_next" s_law_next ["source", "many"]
  law_one_ : Stands K mg "_law_one" s_law_one ["source", "some"]
  law_source_of_ : Stands K mg "_law_source_of" s_law_source_of ["cell"]
  law_cell_at_ : Stands K mg "_law_cell_at" s_law_cell_at ["script", "index"]
  law_leaf_ : Stands K mg "_law_leaf" s_law_leaf ["source", "names"]
  law_record_ : Stands K mg "_law_record" s_law_record ["source", "names", "deep", "is_plain"]
  law_term_ : Stands K mg "_law_term" s_law_term ["source", "names", "deep"]
  law_words_ : Stands K mg "_law_words" s_law_words ["node"]
  law_own_name_ : Stands K mg "_law_own_name" s_law_own_name ["source"]
  law_wide_ : Stands K mg "_law_wide" s_law_wide ["source", "deep"]
  law_refused_ : Stands K mg "_law_refused" s_law_refused ["term_here"]
  law_names_right_ : Stands K mg "_law_names_right" s_law_names_right ["source"]
  law_ : Stands K mg "law" s_law ["script"]
/-- the program's defs of terms -/
structure CoreDefs (K : PySem.W.Frag) (mg : Str → Option Value) : Prop where
  is_integer_ : Stands K mg "is_integer" s_is_integer ["value"]
  is_integer_within_ : Stands K mg "is_integer_within" s_is_integer_within ["value", "least", "greatest"]
  is_name_ : Stands K mg "is_name" s_is_name ["value"]
  are_names_ : Stands K mg "are_names" s_are_names ["values"]
  are_ascending_ : Stands K mg "are_ascending" s_are_ascending ["names"]
  are_fields_ : Stands K mg "are_fields" s_are_fields ["value", "most"]
  are_items_ : Stands K mg "are_items" s_are_items ["value"]
  begins_as_function_ : Stands K mg "begins_as_function" s_begins_as_function ["value"]
  inner_of_var_ : Stands K mg "inner_of_var" s_inner_of_var ["node"]
  inner_of_int_ : Stands K mg "inner_of_int" s_inner_of_int ["node"]
  inner_of_bool_ : Stands K mg "inner_of_bool" s_inner_of_bool ["node"]
  inner_of_fun_ : Stands K mg "inner_of_fun" s_inner_of_fun ["node"]
  inner_of_app_ : Stands K mg "inner_of_app" s_inner_of_app ["node"]
  inner_of_let_ : Stands K mg "inner_of_let" s_inner_of_let ["node"]
  inner_of_rec_ : Stands K mg "inner_of_rec" s_inner_of_rec ["node"]
  inner_of_if_ : Stands K mg "inner_of_if" s_inner_of_if ["node"]
  inner_of_tuple_ : Stands K mg "inner_of_tuple" s_inner_of_tuple ["node"]
  inner_of_part_ : Stands K mg "inner_of_part" s_inner_of_part ["node"]
  inner_of_record_ : Stands K mg "inner_of_record" s_inner_of_record ["node"]
  inner_of_field_ : Stands K mg "inner_of_field" s_inner_of_field ["node"]
  inner_of_with_ : Stands K mg "inner_of_with" s_inner_of_with ["node"]
  inner_terms_ : Stands K mg "inner_terms" s_inner_terms ["value"]
  levels_if_term_ : Stands K mg "levels_if_term" s_levels_if_term ["value"]
  levels_of_ : Stands K mg "levels_of" s_levels_of ["term"]
  check_term_ : Stands K mg "check_term" s_check_term ["value"]
/-- the program's defs of texts -/
structure MoreDefs (K : PySem.W.Frag) (mg : Str → Option Value) : Prop where
  is_written_integer_ : Stands K mg "is_written_integer" s_is_written_integer ["word"]
  integer_of_ : Stands K mg "integer_of" s_integer_of ["word"]
  can_be_name_ : Stands K mg "can_be_name" s_can_be_name ["word"]
  want_ : Stands K mg "want" s_want ["wanted", "behind"]
  take_word_ : Stands K mg "take_word" s_take_word ["word", "which", "wanted", "values"]
  take_name_ : Stands K mg "take_name" s_take_name ["word", "which", "wanted", "values"]
  take_integer_ : Stands K mg "take_integer" s_take_integer ["word", "which", "wanted", "values"]
  take_term_ : Stands K mg "take_term" s_take_term ["word", "which", "wanted", "values"]
  take_opened_ : Stands K mg "take_opened" s_take_opened ["word", "which", "wanted", "values"]
  take_begun_ : Stands K mg "take_begun" s_take_begun ["word", "which", "wanted", "values"]
  take_items_ : Stands K mg "take_items" s_take_items ["word", "which", "wanted", "values"]
  take_fields_ : Stands K mg "take_fields" s_take_fields ["word", "which", "wanted", "values"]
  build_ : Stands K mg "build" s_build ["which", "values"]
  build_all_ : Stands K mg "build_all" s_build_all ["wanted", "values"]
  term_of_words_ : Stands K mg "term_of_words" s_term_of_words ["words"]
  read_term_ : Stands K mg "read_term" s_read_term ["text"]
  list_pieces_ : Stands K mg "list_pieces" s_list_pieces ["begin", "groups", "end"]
  pieces_of_ : Stands K mg "pieces_of" s_pieces_of ["node"]
  term_text_ : Stands K mg "term_text" s_term_text ["term"]
structure Tab (w : World) (K : PySem.W.Frag) (mg : Str → Option Value) (D : Addr) (es : Array DictEntry) (n : Nat) : Prop where
  at_ : mg "INNER_OF" = some (.ref D)
  kd : KDict K w D es n
  t_var : ∃ f : Addr, PySem.W.nsIn K D "var" = some (some (.ref f)) ∧ mg "inner_of_var" = some (.ref f)
  t_int : ∃ f : Addr, PySem.W.nsIn K D "int" = some (some (.ref f)) ∧ mg "inner_of_int" = some (.ref f)
  t_bool : ∃ f : Addr, PySem.W.nsIn K D "bool" = some (some (.ref f)) ∧ mg "inner_of_bool" = some (.ref f)
  t_fun : ∃ f : Addr, PySem.W.nsIn K D "fun" = some (some (.ref f)) ∧ mg "inner_of_fun" = some (.ref f)
  t_app : ∃ f : Addr, PySem.W.nsIn K D "app" = some (some (.ref f)) ∧ mg "inner_of_app" = some (.ref f)
  t_let : ∃ f : Addr, PySem.W.nsIn K D "let" = some (some (.ref f)) ∧ mg "inner_of_let" = some (.ref f)
  t_rec : ∃ f : Addr, PySem.W.nsIn K D "rec" = some (some (.ref f)) ∧ mg "inner_of_rec" = some (.ref f)
  t_if : ∃ f : Addr, PySem.W.nsIn K D "if" = some (some (.ref f)) ∧ mg "inner_of_if" = some (.ref f)
  t_tuple : ∃ f : Addr, PySem.W.nsIn K D "tuple" = some (some (.ref f)) ∧ mg "inner_of_tuple" = some (.ref f)
  t_part : ∃ f : Addr, PySem.W.nsIn K D "part" = some (some (.ref f)) ∧ mg "inner_of_part" = some (.ref f)
  t_record : ∃ f : Addr, PySem.W.nsIn K D "record" = some (some (.ref f)) ∧ mg "inner_of_record" = some (.ref f)
  t_field : ∃ f : Addr, PySem.W.nsIn K D "field" = some (some (.ref f)) ∧ mg "inner_of_field" = some (.ref f)
  t_with : ∃ f : Addr, PySem.W.nsIn K D "with" = some (some (.ref f)) ∧ mg "inner_of_with" = some (.ref f)
structure TabT (w : World) (K : PySem.W.Frag) (mg : Str → Option Value) (D : Addr) (es : Array DictEntry) (n : Nat) : Prop where
  at_ : mg "TAKES" = some (.ref D)
  kd : KDict K w D es n
  k_word : ∃ f : Addr, PySem.W.nsIn K D "word" = some (some (.ref f)) ∧ mg "take_word" = some (.ref f)
  k_name : ∃ f : Addr, PySem.W.nsIn K D "name" = some (some (.ref f)) ∧ mg "take_name" = some (.ref f)
  k_integer : ∃ f : Addr, PySem.W.nsIn K D "integer" = some (some (.ref f)) ∧ mg "take_integer" = some (.ref f)
  k_term : ∃ f : Addr, PySem.W.nsIn K D "term" = some (some (.ref f)) ∧ mg "take_term" = some (.ref f)
  k_opened : ∃ f : Addr, PySem.W.nsIn K D "opened" = some (some (.ref f)) ∧ mg "take_opened" = some (.ref f)
  k_begun : ∃ f : Addr, PySem.W.nsIn K D "begun" = some (some (.ref f)) ∧ mg "take_begun" = some (.ref f)
  k_items : ∃ f : Addr, PySem.W.nsIn K D "items" = some (some (.ref f)) ∧ mg "take_items" = some (.ref f)
  k_fields : ∃ f : Addr, PySem.W.nsIn K D "fields" = some (some (.ref f)) ∧ mg "take_fields" = some (.ref f)
structure TabM (w : World) (K : PySem.W.Frag) (mg : Str → Option Value) (D : Addr) (es : Array DictEntry) (n : Nat) : Prop where
  at_ : mg "BUILT_OF" = some (.ref D)
  kd : KDict K w D es n
  m_fun : ∃ t, PySem.W.nsIn K D "fun" = some (some (.int 2 t))
  m_let : ∃ t, PySem.W.nsIn K D "let" = some (some (.int 3 t))
  m_rec : ∃ t, PySem.W.nsIn K D "rec" = some (some (.int 3 t))
  m_if : ∃ t, PySem.W.nsIn K D "if" = some (some (.int 3 t))
  m_part : ∃ t, PySem.W.nsIn K D "part" = some (some (.int 3 t))
  m_field : ∃ t, PySem.W.nsIn K D "field" = some (some (.int 2 t))
  m_with : ∃ t, PySem.W.nsIn K D "with" = some (some (.int 3 t))
  m_app : ∃ t, PySem.W.nsIn K D "app" = some (some (.int 2 t))
  m_tuple : ∃ t, PySem.W.nsIn K D "tuple" = some (some (.int 1 t))
  m_record : ∃ t, PySem.W.nsIn K D "record" = some (some (.int 1 t))
structure TabW (w : World) (K : PySem.W.Frag) (mg : Str → Option Value) (D : Addr) (es : Array DictEntry) (n : Nat) : Prop where
  at_ : mg "WRITTEN" = some (.ref D)
  kd : KDict K w D es n
  w_var : ∃ b : Addr, PySem.W.nsIn K D "var" = some (some (.ref b)) ∧ ∀ H : Hp, SqT K H b [.int 1]
  w_fun : ∃ b : Addr, PySem.W.nsIn K D "fun" = some (some (.ref b)) ∧ ∀ H : Hp, SqT K H b [.str "(", .str "fun", .int 1, .str ".", .int 2, .str ")"]
  w_app : ∃ b : Addr, PySem.W.nsIn K D "app" = some (some (.ref b)) ∧ ∀ H : Hp, SqT K H b [.str "(", .int 1, .int 2, .str ")"]
  w_let : ∃ b : Addr, PySem.W.nsIn K D "let" = some (some (.ref b)) ∧ ∀ H : Hp, SqT K H b [.str "(", .str "let", .int 1, .str "=", .int 2, .str "in", .int 3, .str ")"]
  w_rec : ∃ b : Addr, PySem.W.nsIn K D "rec" = some (some (.ref b)) ∧ ∀ H : Hp, SqT K H b [.str "(", .str "rec", .int 1, .str "=", .int 2, .str "in", .int 3, .str ")"]
  w_if : ∃ b : Addr, PySem.W.nsIn K D "if" = some (some (.ref b)) ∧ ∀ H : Hp, SqT K H b [.str "(", .str "if", .int 1, .str "then", .int 2, .str "else", .int 3, .str ")"]
  w_part : ∃ b : Addr, PySem.W.nsIn K D "part" = some (some (.ref b)) ∧ ∀ H : Hp, SqT K H b [.str "(", .int 1, .str "of", .int 2, .int 3, .str ")"]
  w_field : ∃ b : Addr, PySem.W.nsIn K D "field" = some (some (.ref b)) ∧ ∀ H : Hp, SqT K H b [.str "(", .int 1, .str ".", .int 2, .str ")"]
  w_with : ∃ b : Addr, PySem.W.nsIn K D "with" = some (some (.ref b)) ∧ ∀ H : Hp, SqT K H b [.str "(", .int 1, .str "with", .int 2, .str "=", .int 3, .str ")"]
structure TabB (w : World) (K : PySem.W.Frag) (mg : Str → Option Value) (D : Addr) (es : Array DictEntry) (n : Nat) : Prop where
  at_ : mg "WANTED_BEHIND" = some (.ref D)
  kd : KDict K w D es n
  bhFun : ∃ (a : Addr) (vs : List V), PySem.W.nsIn K D "fun" = some (some (.ref a)) ∧ (∀ H, SqT K H a vs) ∧ ∀ H, Al (Wnt K H) vs bhFun
  bhLet : ∃ (a : Addr) (vs : List V), PySem.W.nsIn K D "let" = some (some (.ref a)) ∧ (∀ H, SqT K H a vs) ∧ ∀ H, Al (Wnt K H) vs bhLet
  bhRec : ∃ (a : Addr) (vs : List V), PySem.W.nsIn K D "rec" = some (some (.ref a)) ∧ (∀ H, SqT K H a vs) ∧ ∀ H, Al (Wnt K H) vs bhRec
  bhIf : ∃ (a : Addr) (vs : List V), PySem.W.nsIn K D "if" = some (some (.ref a)) ∧ (∀ H, SqT K H a vs) ∧ ∀ H, Al (Wnt K H) vs bhIf
  bhOf : ∃ (a : Addr) (vs : List V), PySem.W.nsIn K D "of" = some (some (.ref a)) ∧ (∀ H, SqT K H a vs) ∧ ∀ H, Al (Wnt K H) vs bhOf
  bhApp : ∃ (a : Addr) (vs : List V), PySem.W.nsIn K D "app" = some (some (.ref a)) ∧ (∀ H, SqT K H a vs) ∧ ∀ H, Al (Wnt K H) vs bhApp
  bhDot : ∃ (a : Addr) (vs : List V), PySem.W.nsIn K D "." = some (some (.ref a)) ∧ (∀ H, SqT K H a vs) ∧ ∀ H, Al (Wnt K H) vs bhDot
  bhWith : ∃ (a : Addr) (vs : List V), PySem.W.nsIn K D "with" = some (some (.ref a)) ∧ (∀ H, SqT K H a vs) ∧ ∀ H, Al (Wnt K H) vs bhWith
  bhComma : ∃ (a : Addr) (vs : List V), PySem.W.nsIn K D "," = some (some (.ref a)) ∧ (∀ H, SqT K H a vs) ∧ ∀ H, Al (Wnt K H) vs bhComma
  bhEq : ∃ (a : Addr) (vs : List V), PySem.W.nsIn K D "=" = some (some (.ref a)) ∧ (∀ H, SqT K H a vs) ∧ ∀ H, Al (Wnt K H) vs bhEq
section
variable {P : Program} {w : World} {K : PySem.W.Frag} {mg : Str → Option Value} {base : Heap}
theorem held_in {x wd : Str} {D : Addr} (h : DefOk P w K mg base CX0 4 x ["node"] (spIn K wd)) (t : ∃ f : Addr, PySem.W.nsIn K D wd = some (some (.ref f)) ∧ mg x = some (.ref f)) : ∃ f : Addr, PySem.W.nsIn K D wd = some (some (.ref f)) ∧ Held P w K mg base 4 f (spIn K wd) := by
  obtain ⟨f, e, m⟩ := t
  obtain ⟨g, fd, F, m2, k, b⟩ := h
  rw [m] at m2
  cases m2
  exact ⟨f, e, ⟨fd, _, F, k, b⟩⟩
theorem held_take {j : Nat} {x wd : Str} {D : Addr} (hj : j ≤ 4) (h : DefOk P w K mg base CX0 j x ["word", "which", "wanted", "values"] (spTake K wd)) (t : ∃ f : Addr, PySem.W.nsIn K D wd = some (some (.ref f)) ∧ mg x = some (.ref f)) : ∃ f : Addr, PySem.W.nsIn K D wd = some (some (.ref f)) ∧ Held P w K mg base 4 f (spTake K wd) := by
  obtain ⟨f, e, m⟩ := t
  obtain ⟨g, fd, F, m2, k, b⟩ := h.mono hj
  rw [m] at m2
  cases m2
  exact ⟨f, e, ⟨fd, _, F, k, b⟩⟩
theorem kinds_ok {D : Addr} {es : Array DictEntry} {n : Nat} (S : CoreDefs K mg) (Z : Blt mg) (C : Cst mg) (T : Tab w K mg D es n) : Kinds P w K mg base D es n := by
  have h1 := ok_is_integer (P := P) (w := w) (base := base) S.is_integer_ Z
  have h2 := ok_is_integer_within S.is_integer_within_ Z h1
  have h3 := ok_is_name (P := P) (w := w) (base := base) S.is_name_ Z C
  have h4 := ok_are_ascending (P := P) (w := w) (base := base) S.are_ascending_ Z
  have h5 := ok_are_names (P := P) (w := w) (base := base) S.are_names_ Z C
  have h6 := ok_are_fields S.are_fields_ Z h5 h4
  have h7 := ok_are_items (P := P) (w := w) (base := base) S.are_items_ Z C
  have h8 := ok_begins (P := P) (w := w) (base := base) S.begins_as_function_ Z
  refine ⟨T.at_, T.kd, fun h => ?_⟩
  cases h with
  | var _ => exact held_in (ok_in_var S.inner_of_var_ Z C h3) T.t_var
  | int _ => exact held_in (ok_in_int S.inner_of_int_ Z C h2) T.t_int
  | bool _ => exact held_in (ok_in_bool S.inner_of_bool_ Z C ) T.t_bool
  | fn _ => exact held_in (ok_in_fun S.inner_of_fun_ Z C h3) T.t_fun
  | app => exact held_in (ok_in_app S.inner_of_app_ Z C ) T.t_app
  | lt _ => exact held_in (ok_in_let S.inner_of_let_ Z C h3) T.t_let
  | rc _ => exact held_in (ok_in_rec S.inner_of_rec_ Z C h3 h8) T.t_rec
  | cond => exact held_in (ok_in_if S.inner_of_if_ Z C ) T.t_if
  | tup => exact held_in (ok_in_tuple S.inner_of_tuple_ Z C h7) T.t_tuple
  | part _ _ => exact held_in (ok_in_part S.inner_of_part_ Z C h2) T.t_part
  | record _ => exact held_in (ok_in_record S.inner_of_record_ Z C h6) T.t_record
  | field _ => exact held_in (ok_in_field S.inner_of_field_ Z C h3) T.t_field
  | wth _ => exact held_in (ok_in_with S.inner_of_with_ Z C h3) T.t_with
theorem many_ok {D : Addr} {es : Array DictEntry} {n : Nat} (T : TabM w K mg D es n) : Bmany w K mg D es n := by
  refine ⟨T.at_, T.kd, fun b h => ?_⟩
  cases b with
  | fn => exact T.m_fun
  | lt => exact T.m_let
  | rc => exact T.m_rec
  | cond => exact T.m_if
  | part => exact T.m_part
  | field => exact T.m_field
  | wth => exact T.m_with
  | app => exact T.m_app
  | tuple => exact T.m_tuple
  | record => exact T.m_record
  | item => exact absurd rfl h
  | entry => exact absurd rfl h
theorem behind_ok {D : Addr} {es : Array DictEntry} {n : Nat} (T : TabB w K mg D es n) : Bhd w K mg D es n := by
  refine ⟨T.at_, T.kd, fun r m => ?_⟩
  simp only [List.mem_cons, List.not_mem_nil, or_false] at m
  rcases m with rfl | rfl | rfl | rfl | rfl | rfl | rfl | rfl | rfl | rfl
  · exact T.bhFun
  · exact T.bhLet
  · exact T.bhRec
  · exact T.bhIf
  · exact T.bhOf
  · exact T.bhApp
  · exact T.bhDot
  · exact T.bhWith
  · exact T.bhComma
  · exact T.bhEq
theorem writ_ok {D : Addr} {es : Array DictEntry} {n : Nat} (T : TabW w K mg D es n) : Writ w K mg D es n := by
  refine ⟨T.at_, T.kd, fun h e => ?_⟩
  cases h with
  | var _ =>
    have z : wrV "var" = [V.int 1] := by kernel_rfl
    show ∃ a, PySem.W.nsIn K D "var" = some (some (.ref a)) ∧ ∀ H, SqT K H a (wrV "var")
    rw [z]
    exact T.w_var
  | int _ => cases e
  | bool _ => cases e
  | fn _ =>
    have z : wrV "fun" = [V.str "(", V.str "fun", V.int 1, V.str ".", V.int 2, V.str ")"] := by kernel_rfl
    show ∃ a, PySem.W.nsIn K D "fun" = some (some (.ref a)) ∧ ∀ H, SqT K H a (wrV "fun")
    rw [z]
    exact T.w_fun
  | app =>
    have z : wrV "app" = [V.str "(", V.int 1, V.int 2, V.str ")"] := by kernel_rfl
    show ∃ a, PySem.W.nsIn K D "app" = some (some (.ref a)) ∧ ∀ H, SqT K H a (wrV "app")
    rw [z]
    exact T.w_app
  | lt _ =>
    have z : wrV "let" = [V.str "(", V.str "let", V.int 1, V.str "=", V.int 2, V.str "in", V.int 3, V.str ")"] := by kernel_rfl
    show ∃ a, PySem.W.nsIn K D "let" = some (some (.ref a)) ∧ ∀ H, SqT K H a (wrV "let")
    rw [z]
    exact T.w_let
  | rc _ =>
    have z : wrV "rec" = [V.str "(", V.str "rec", V.int 1, V.str "=", V.int 2, V.str "in", V.int 3, V.str ")"] := by kernel_rfl
    show ∃ a, PySem.W.nsIn K D "rec" = some (some (.ref a)) ∧ ∀ H, SqT K H a (wrV "rec")
    rw [z]
    exact T.w_rec
  | cond =>
    have z : wrV "if" = [V.str "(", V.str "if", V.int 1, V.str "then", V.int 2, V.str "else", V.int 3, V.str ")"] := by kernel_rfl
    show ∃ a, PySem.W.nsIn K D "if" = some (some (.ref a)) ∧ ∀ H, SqT K H a (wrV "if")
    rw [z]
    exact T.w_if
  | tup => cases e
  | part _ _ =>
    have z : wrV "part" = [V.str "(", V.int 1, V.str "of", V.int 2, V.int 3, V.str ")"] := by kernel_rfl
    show ∃ a, PySem.W.nsIn K D "part" = some (some (.ref a)) ∧ ∀ H, SqT K H a (wrV "part")
    rw [z]
    exact T.w_part
  | record _ => cases e
  | field _ =>
    have z : wrV "field" = [V.str "(", V.int 1, V.str ".", V.int 2, V.str ")"] := by kernel_rfl
    show ∃ a, PySem.W.nsIn K D "field" = some (some (.ref a)) ∧ ∀ H, SqT K H a (wrV "field")
    rw [z]
    exact T.w_field
  | wth _ =>
    have z : wrV "with" = [V.str "(", V.int 1, V.str "with", V.int 2, V.str "=", V.int 3, V.str ")"] := by kernel_rfl
    show ∃ a, PySem.W.nsIn K D "with" = some (some (.ref a)) ∧ ∀ H, SqT K H a (wrV "with")
    rw [z]
    exact T.w_with
theorem takes_ok {D D2 : Addr} {es es2 : Array DictEntry} {n n2 : Nat} (S : MoreDefs K mg) (SC : CoreDefs K mg) (Z : Blt mg) (C : Cst mg) (C4 : Cst4 K mg) (T : TabT w K mg D es n) (B : Bhd w K mg D2 es2 n2) : Takes P w K mg base D es n := by
  have hn := ok_is_name (P := P) (w := w) (base := base) SC.is_name_ Z C
  have hw := ok_is_written_integer (P := P) (w := w) (base := base) S.is_written_integer_ Z
  have hi := ok_integer_of (P := P) (w := w) (base := base) S.integer_of_ Z C4 C
  have hc := ok_can_be_name S.can_be_name_ Z C4 hn
  have hb := ok_want (P := P) (w := w) (base := base) S.want_
  refine ⟨T.at_, T.kd, fun c h => ?_⟩
  cases c with
  | word x => exact held_take (by decide) (ok_take_word (P := P) (w := w) (base := base) S.take_word_) T.k_word
  | name => exact held_take (by decide) (ok_take_name S.take_name_ hc) T.k_name
  | integer => exact held_take (by decide) (ok_take_integer S.take_integer_ hw hi) T.k_integer
  | term => exact held_take (by decide) (ok_take_term S.take_term_ hw hi hc) T.k_term
  | opened => exact held_take (by decide) (ok_take_opened S.take_opened_ B hb hw (ok_take_term S.take_term_ hw hi hc)) T.k_opened
  | begun o => exact held_take (by decide) (ok_take_begun S.take_begun_ B hb (ok_take_term S.take_term_ hw hi hc)) T.k_begun
  | items => exact held_take (by decide) (ok_take_items S.take_items_ B hb) T.k_items
  | fields o => exact held_take (by decide) (ok_take_fields S.take_fields_ B hb (ok_take_name S.take_name_ hc)) T.k_fields
  | build b => exact absurd rfl (h b)
/-- what is told of check_term, read_term, term_text -/
theorem deep_pos (t : T) : 1 ≤ t.deep := by
  cases t
  simp only [T.deep]
  omega
theorem law_terms (S : LawDefs K mg) (Z : Blt mg) : ∀ n, DefOk P w K mg base CX0 (2 * n + 3) "_law_term" ["source", "names", "deep"] (spTerm K n) := by
  have h1 := ok_next (P := P) (w := w) (base := base) S.law_next_ Z
  have h2 := ok_one (P := P) (w := w) (base := base) S.law_one_ Z h1
  have h3 := ok_leaf (P := P) (w := w) (base := base) S.law_leaf_ Z h1 h2
  intro n
  induction n with
  | zero => exact ok_void S.law_term_ fun vs H Q E ⟨_, _, _, d, _, _, _, _, z, _⟩ => absurd z (Nat.not_lt_zero d)
  | succ n ih => exact ok_term S.law_term_ Z h1 h2 h3 ih (ok_record S.law_record_ Z h1 h2 h3 ih)
theorem law_wides (S : LawDefs K mg) (Z : Blt mg) : ∀ n, DefOk P w K mg base CX0 (n + 4) "_law_wide" ["source", "deep"] (spWide K n) := by
  have h1 := ok_next (P := P) (w := w) (base := base) S.law_next_ Z
  have h2 := ok_one (P := P) (w := w) (base := base) S.law_one_ Z h1
  have h3 := ok_own (P := P) (w := w) (base := base) S.law_own_name_ h2
  intro n
  induction n with
  | zero => exact ok_void S.law_wide_ fun vs H Q E ⟨_, d, _, _, z, _⟩ => absurd z (Nat.not_lt_zero d)
  | succ n ih => exact ok_wide S.law_wide_ Z h1 h2 h3 ih
theorem law_wordss (S : LawDefs K mg) (Z : Blt mg) : ∀ n, DefOk P w K mg base CX0 (n + 2) "_law_words" ["node"] (spWords K n) := by
  intro n
  induction n with
  | zero => exact ok_void S.law_words_ fun vs H Q E ⟨_, t, _, _, _, _, _, _, z, _⟩ => by have := deep_pos t; omega
  | succ n ih => exact ok_words S.law_words_ Z ih
/-- calls by keywords alone -/
theorem kb1 {x p : Str} {st : Stmt} {f : Addr} {fd : FuncData} (F : Fun K x x st f fd) (h : ∀ (kV doc pm : Value) (an : Option Addr) (cdv ct u : Value), bindArgs (PySem.W.fnOf x x (defArgs st) (defBody st) (defScope st) .none kV doc pm an cdv ct) ⟨[], [(p, u)]⟩ = pure [(p, u)]) : KBn K fd [p] 0 [p] (fun _ ws => ws) (fun _ zs => zs) := by
  obtain ⟨oc, od, kV, doc, pm, an, cdv, ct, osl, rfl, lk, hcd⟩ := F.ex
  refine ⟨fun s us ws _ h1 h2 => ?_, fun _ r => r⟩
  obtain rfl := List.eq_nil_of_length_eq_zero h1
  match ws, h2 with
  | [u], _ => exact .of_eq (h kV doc pm an cdv ct u)
theorem law_ok {D1 D2 D3 D4 D5 C fI : Addr} {e1 e2 e3 e4 e5 : Array DictEntry} {n1 n2 n3 n4 n5 : Nat} (S : LawDefs K mg) (S1 : CoreDefs K mg) (S2 : MoreDefs K mg) (Z : Blt mg) (z_max : mg "max" = none) (C0 : Cst mg) (C4 : Cst4 K mg) (T1 : Tab w K mg D1 e1 n1) (T2 : TabT w K mg D2 e2 n2) (T3 : TabM w K mg D3 e3 n3) (T4 : TabW w K mg D4 e4 n4) (T5 : TabB w K mg D5 e5 n5)
    (EC : ErrC K mg "InvalidName" "name" C) (I : HasInvalidName K mg C fI) {f : Addr} {fd : FuncData} (FL : Fun K "law" "law" s_law f fd) : FnG P w K mg base CX0 61 f fd ["script"] (spLaw K) := by
  have hi := ok_inner_terms S1.inner_terms_ Z (kinds_ok (P := P) (base := base) S1 Z C0 T1)
  have hl := ok_levels_of S1.levels_of_ Z (ok_levels_if_term S1.levels_if_term_ Z C0 hi)
  have hc := ok_check_term S1.check_term_ hl
  have hB := behind_ok T5
  have hT := takes_ok (P := P) (w := w) (base := base) S2 S1 Z C0 C4 T2 hB
  have hb := ok_build_all S2.build_all_ (ok_build (P := P) (base := base) S2.build_ (many_ok T3))
  have hr := ok_read_term S2.read_term_ Z (ok_term_of_words S2.term_of_words_ Z hT hb) hc.to
  have hp := ok_pieces_of S2.pieces_of_ Z (writ_ok T4) (ok_list_pieces (P := P) (w := w) (base := base) S2.list_pieces_ Z)
  have ht := ok_term_text S2.term_text_ Z C4 hc.to hp
  have ha := ok_text_any S2.term_text_ Z C4 I hc.to hp
  have hR := ok_refused S.law_refused_ EC (ha.mono (show 9 ≤ 19 by omega))
  have h1 := ok_next (P := P) (w := w) (base := base) S.law_next_ Z
  have h2 := ok_one (P := P) (w := w) (base := base) S.law_one_ Z h1
  have hN := ok_names_right S.law_names_right_ Z z_max h2 (hc.to.mono (by omega)) hR
  obtain ⟨f4, fd4, F4, G4, m4, k4, b4⟩ := ht
  obtain ⟨f5, fd5, F5, G5, m5, k5, b5⟩ := hr
  exact ok_law FL Z ((ok_cell S.law_cell_at_).mono (by omega)) (h1.mono (by omega)) ((law_terms S Z 5).mono (by omega)) ((ok_source S.law_source_of_ Z).mono (by omega)) ((law_wides S Z 3).mono (by omega)) ((law_wordss S Z 20).mono (by omega)) (hN.mono (by omega))
    ⟨f4, fd4, G4.mono (by omega), m4, k4, b4, kb1 F4 fun _ _ _ _ _ _ _ => rfl⟩ ⟨f5, fd5, G5.mono (by omega), m5, k5, b5, kb1 F5 fun _ _ _ _ _ _ _ => rfl⟩
theorem need {h : Heap} {x : Str} {st : Stmt} {ps : List Str} {A : Prop} (_ : K.In h) (S : Stands K mg x st ps) (k : Stands K mg x st ps → A) : A := k S
theorem needN {h : Heap} {x : Str} {i : Int} {A : Prop} (_ : K.In h) (S : ∃ t, mg x = some (.int i t)) (k : (∃ t, mg x = some (.int i t)) → A) : A := k S
theorem needX {h : Heap} {A : Prop} (_ : K.In h) (S : ∃ a, mg "NO_NAMES" = some (.ref a) ∧ ∀ H : Hp, SqT K H a (noNames.map V.str)) (k : (∃ a, mg "NO_NAMES" = some (.ref a) ∧ ∀ H : Hp, SqT K H a (noNames.map V.str)) → A) : A := k S
theorem tab_of {h : Heap} {D f : Addr} {x y : Str} (X : K.In h) (G : h.Ns mainGlobals mg) (a : PySem.W.nsIn K D x = some (some (.ref f))) (b : PySem.W.nsIn K mainGlobals y = some (some (.ref f))) : ∃ f : Addr, PySem.W.nsIn K D x = some (some (.ref f)) ∧ mg y = some (.ref f) := ⟨f, a, PySem.W.mg_of X G b⟩
theorem tup_of {b : Addr} {xs : List V} {dd : Option Addr} {its : Array Value} {n : Nat} {sl : Array (Option Value)} (l : K.lookup b = some ⟨.type "tuple", dd, .seq its n, sl⟩) (v : Vals xs its.toList) (z : its.size ≤ sizeLine) : ∀ H : Hp, SqT K H b xs := fun _ => .inr ⟨_, its, n, l, rfl, rfl, z, v⟩
theorem bnd_of {D b : Addr} {x : Str} {xs : List V} {dd : Option Addr} {its : Array Value} {n : Nat} {sl : Array (Option Value)} (a : PySem.W.nsIn K D x = some (some (.ref b))) (l : K.lookup b = some ⟨.type "tuple", dd, .seq its n, sl⟩) (v : Vals xs its.toList) (z : its.size ≤ sizeLine) : ∃ b : Addr, PySem.W.nsIn K D x = some (some (.ref b)) ∧ ∀ H : Hp, SqT K H b xs :=
  ⟨b, a, tup_of l v z⟩
theorem nn_of {h : Heap} {b : Addr} {dd : Option Addr} {its : Array Value} {n : Nat} {sl : Array (Option Value)} (X : K.In h) (G : h.Ns mainGlobals mg) (a : PySem.W.nsIn K mainGlobals "NO_NAMES" = some (some (.ref b))) (l : K.lookup b = some ⟨.type "tuple", dd, .seq its n, sl⟩) (v : Vals (noNames.map V.str) its.toList) (z : its.size ≤ sizeLine) : ∃ a, mg "NO_NAMES" = some (.ref a) ∧ ∀ H : Hp, SqT K H a (noNames.map V.str) :=
  ⟨b, PySem.W.mg_of X G a, tup_of l v z⟩
theorem int_of {D : Addr} {x : Str} {i : Int} {t : Tok} (a : PySem.W.nsIn K D x = some (some (.int i t))) : ∃ t, PySem.W.nsIn K D x = some (some (.int i t)) := ⟨t, a⟩
theorem wn_of {b : Addr} {c : Wn} {dd : Option Addr} {its : Array Value} {n : Nat} {sl : Array (Option Value)} (l : K.lookup b = some ⟨.type "tuple", dd, .seq its n, sl⟩) (v : Vals [.str c.what, .str c.which] its.toList) (z : its.size ≤ sizeLine) : ∀ H : Hp, Wnt K H (.ref b) c := fun H => ⟨b, rfl, tup_of l v z H⟩
theorem al_nil : ∀ H : Hp, Al (Wnt K H) [] [] := fun _ => Al.nil
theorem al_cons {v : V} {c : Wn} {vs : List V} {cs : List Wn} (a : ∀ H : Hp, Wnt K H v c) (b : ∀ H : Hp, Al (Wnt K H) vs cs) : ∀ H : Hp, Al (Wnt K H) (v :: vs) (c :: cs) := fun H => Al.cons (a H) (b H)
theorem bh_of {D b : Addr} {x : Str} {xs : List V} {cs : List Wn} {dd : Option Addr} {its : Array Value} {n : Nat} {sl : Array (Option Value)} (a : PySem.W.nsIn K D x = some (some (.ref b))) (l : K.lookup b = some ⟨.type "tuple", dd, .seq its n, sl⟩) (v : Vals xs its.toList) (z : its.size ≤ sizeLine) (al : ∀ H : Hp, Al (Wnt K H) xs cs) :
    ∃ (a : Addr) (vs : List V), PySem.W.nsIn K D x = some (some (.ref a)) ∧ (∀ H, SqT K H a vs) ∧ ∀ H, Al (Wnt K H) vs cs := ⟨b, xs, a, tup_of l v z, al⟩
theorem need1 {h : Heap} {A : Prop} (_ : K.In h) (S : ∃ D es n, Tab w K mg D es n) (k : ∀ D es n, Tab w K mg D es n → A) : A := by
  obtain ⟨D, es, n, a⟩ := S
  exact k D es n a
theorem need2 {h : Heap} {A : Prop} (_ : K.In h) (S : ∃ D es n, TabT w K mg D es n) (k : ∀ D es n, TabT w K mg D es n → A) : A := by
  obtain ⟨D, es, n, a⟩ := S
  exact k D es n a
theorem need3 {h : Heap} {A : Prop} (_ : K.In h) (S : ∃ D es n, TabM w K mg D es n) (k : ∀ D es n, TabM w K mg D es n → A) : A := by
  obtain ⟨D, es, n, a⟩ := S
  exact k D es n a
theorem need4 {h : Heap} {A : Prop} (_ : K.In h) (S : ∃ D es n, TabW w K mg D es n) (k : ∀ D es n, TabW w K mg D es n → A) : A := by
  obtain ⟨D, es, n, a⟩ := S
  exact k D es n a
theorem need5 {h : Heap} {A : Prop} (_ : K.In h) (S : ∃ D es n, TabB w K mg D es n) (k : ∀ D es n, TabB w K mg D es n → A) : A := by
  obtain ⟨D, es, n, a⟩ := S
  exact k D es n a
theorem needE {h : Heap} {x f : Str} {A : Prop} (_ : K.In h) (S : ∃ C, ErrC K mg x f C) (k : ∀ C, ErrC K mg x f C → A) : A := (fun ⟨C, e⟩ => k C e) S
theorem needI {h : Heap} {A : Prop} (_ : K.In h) (S : ∃ C fI, HasInvalidName K mg C fI) (k : ∀ C fI, HasInvalidName K mg C fI → A) : A := by
  obtain ⟨C, fI, a⟩ := S
  exact k C fI a
theorem exm_own {C : Addr} (h1 : PySem.W.subIn K (.ref C) (.type "BaseException") = some true) (h2 : PySem.W.hasDictIn K C = true) (h3 : PySem.W.typeIn K (.ref C) = some (.type "type")) (h4 : PySem.W.subIn K (.ref C) (.ref C) = some true) : PySem.W.exmOne K (.ref C) (.ref C) = some true := PySem.W.exm_ref h1 h2 h3 h4
end
end Vt


set_option Elab.async false
set_option linter.all false
set_option maxRecDepth 100000
open PySem PySem.W PyProof.Rows
set_option maxHeartbeats 0 in
theorem PySem.Challenge.cw_vasttypes_k04_texts_of_terms_holds : PySem.Challenge.rw_vasttypes_k04_texts_of_terms.Holds := by
  w_on; o_law; k_head; (case hw => w_witness2)
  k_fill
  refine Vt.walkG (l := PySem.Challenge.rw_vasttypes_k04_texts_of_terms) (n := 63) (k := 61) (sp := Vt.spLaw) (x := "script") (by decide +kernel) (by decide) rfl ⟨rfl, by decide, by decide⟩ (fun w h Y => PySem.W.kIn_of Y) ?F ?S
  case S =>
    intro K H a ns h1 h2 h3
    exact ⟨a, ns, rfl, h3, by omega, fun _ => rfl⟩
  case F =>
    intro w mg fa h KX G hmg
    refine' Vt.need (x := "_law_next") (st := Vt.s_law_next) (ps := ["source", "many"]) (mg := mg) KX ?s fun S_law_next => ?_
    (case s =>
      refine' Vt.stands KX G ?a ?l ?c ?k (fun _ _ _ _ _ _ us hl => match us, hl with | [_, _], _ => rfl)
      (case a => k_is); (case l => k_is); (case c => k_is); (case k => k_is))
    refine' Vt.need (x := "_law_one") (st := Vt.s_law_one) (ps := ["source", "some"]) (mg := mg) KX ?s fun S_law_one => ?_
    (case s =>
      refine' Vt.stands KX G ?a ?l ?c ?k (fun _ _ _ _ _ _ us hl => match us, hl with | [_, _], _ => rfl)
      (case a => k_is); (case l => k_is); (case c => k_is); (case k => k_is))
    refine' Vt.need (x := "_law_source_of") (st := Vt.s_law_source_of) (ps := ["cell"]) (mg := mg) KX ?s fun S_law_source_of => ?_
    (case s =>
      refine' Vt.stands KX G ?a ?l ?c ?k (fun _ _ _ _ _ _ us hl => match us, hl with | [_], _ => rfl)
      (case a => k_is); (case l => k_is); (case c => k_is); (case k => k_is))
    refine' Vt.need (x := "_law_cell_at") (st := Vt.s_law_cell_at) (ps := ["script", "index"]) (mg := mg) KX ?s fun S_law_cell_at => ?_
    (case s =>
      refine' Vt.stands KX G ?a ?l ?c ?k (fun _ _ _ _ _ _ us hl => match us, hl with | [_, _], _ => rfl)
      (case a => k_is); (case l => k_is); (case c => k_is); (case k => k_is))
    refine' Vt.need (x := "_law_leaf") (st := Vt.s_law_leaf) (ps := ["source", "names"]) (mg := mg) KX ?s fun S_law_leaf => ?_
    (case s =>
      refine' Vt.stands KX G ?a ?l ?c ?k (fun _ _ _ _ _ _ us hl => match us, hl with | [_, _], _ => rfl)
      (case a => k_is); (case l => k_is); (case c => k_is); (case k => k_is))
    refine' Vt.need (x := "_law_record") (st := Vt.s_law_record) (ps := ["source", "names", "deep", "is_plain"]) (mg := mg) KX ?s fun S_law_record => ?_
    (case s =>
      refine' Vt.stands KX G ?a ?l ?c ?k (fun _ _ _ _ _ _ us hl => match us, hl with | [_, _, _, _], _ => rfl)
      (case a => k_is); (case l => k_is); (case c => k_is); (case k => k_is))
    refine' Vt.need (x := "_law_term") (st := Vt.s_law_term) (ps := ["source", "names", "deep"]) (mg := mg) KX ?s fun S_law_term => ?_
    (case s =>
      refine' Vt.stands KX G ?a ?l ?c ?k (fun _ _ _ _ _ _ us hl => match us, hl with | [_, _, _], _ => rfl)
      (case a => k_is); (case l => k_is); (case c => k_is); (case k => k_is))
    refine' Vt.need (x := "_law_words") (st := Vt.s_law_words) (ps := ["node"]) (mg := mg) KX ?s fun S_law_words => ?_
    (case s =>
      refine' Vt.stands KX G ?a ?l ?c ?k (fun _ _ _ _ _ _ us hl => match us, hl with | [_], _ => rfl)
      (case a => k_is); (case l => k_is); (case c => k_is); (case k => k_is))
    refine' Vt.need (x := "_law_own_name") (st := Vt.s_law_own_name) (ps := ["source"]) (mg := mg) KX ?s fun S_law_own_name => ?_
    (case s =>
      refine' Vt.stands KX G ?a ?l ?c ?k (fun _ _ _ _ _ _ us hl => match us, hl with | [_], _ => rfl)
      (case a => k_is); (case l => k_is); (case c => k_is); (case k => k_is))
    refine' Vt.need (x := "_law_wide") (st := Vt.s_law_wide) (ps := ["source", "deep"]) (mg := mg) KX ?s fun S_law_wide => ?_
    (case s =>
      refine' Vt.stands KX G ?a ?l ?c ?k (fun _ _ _ _ _ _ us hl => match us, hl with | [_, _], _ => rfl)
      (case a => k_is); (case l => k_is); (case c => k_is); (case k => k_is))
    refine' Vt.need (x := "_law_refused") (st := Vt.s_law_refused) (ps := ["term_here"]) (mg := mg) KX ?s fun S_law_refused => ?_
    (case s =>
      refine' Vt.stands KX G ?a ?l ?c ?k (fun _ _ _ _ _ _ us hl => match us, hl with | [_], _ => rfl)
      (case a => k_is); (case l => k_is); (case c => k_is); (case k => k_is))
    refine' Vt.need (x := "_law_names_right") (st := Vt.s_law_names_right) (ps := ["source"]) (mg := mg) KX ?s fun S_law_names_right => ?_
    (case s =>
      refine' Vt.stands KX G ?a ?l ?c ?k (fun _ _ _ _ _ _ us hl => match us, hl with | [_], _ => rfl)
      (case a => k_is); (case l => k_is); (case c => k_is); (case k => k_is))
    refine' Vt.need (x := "law") (st := Vt.s_law) (ps := ["script"]) (mg := mg) KX ?s fun S_law => ?_
    (case s =>
      refine' Vt.stands KX G ?a ?l ?c ?k (fun _ _ _ _ _ _ us hl => match us, hl with | [_], _ => rfl)
      (case a => k_is); (case l => k_is); (case c => k_is); (case k => k_is))
    refine' Vt.need (x := "is_integer") (st := Vt.s_is_integer) (ps := ["value"]) (mg := mg) KX ?s fun S_is_integer => ?_
    (case s =>
      refine' Vt.stands KX G ?a ?l ?c ?k (fun _ _ _ _ _ _ us hl => match us, hl with | [_], _ => rfl)
      (case a => k_is); (case l => k_is); (case c => k_is); (case k => k_is))
    refine' Vt.need (x := "is_integer_within") (st := Vt.s_is_integer_within) (ps := ["value", "least", "greatest"]) (mg := mg) KX ?s fun S_is_integer_within => ?_
    (case s =>
      refine' Vt.stands KX G ?a ?l ?c ?k (fun _ _ _ _ _ _ us hl => match us, hl with | [_, _, _], _ => rfl)
      (case a => k_is); (case l => k_is); (case c => k_is); (case k => k_is))
    refine' Vt.need (x := "is_name") (st := Vt.s_is_name) (ps := ["value"]) (mg := mg) KX ?s fun S_is_name => ?_
    (case s =>
      refine' Vt.stands KX G ?a ?l ?c ?k (fun _ _ _ _ _ _ us hl => match us, hl with | [_], _ => rfl)
      (case a => k_is); (case l => k_is); (case c => k_is); (case k => k_is))
    refine' Vt.need (x := "are_names") (st := Vt.s_are_names) (ps := ["values"]) (mg := mg) KX ?s fun S_are_names => ?_
    (case s =>
      refine' Vt.stands KX G ?a ?l ?c ?k (fun _ _ _ _ _ _ us hl => match us, hl with | [_], _ => rfl)
      (case a => k_is); (case l => k_is); (case c => k_is); (case k => k_is))
    refine' Vt.need (x := "are_ascending") (st := Vt.s_are_ascending) (ps := ["names"]) (mg := mg) KX ?s fun S_are_ascending => ?_
    (case s =>
      refine' Vt.stands KX G ?a ?l ?c ?k (fun _ _ _ _ _ _ us hl => match us, hl with | [_], _ => rfl)
      (case a => k_is); (case l => k_is); (case c => k_is); (case k => k_is))
    refine' Vt.need (x := "are_fields") (st := Vt.s_are_fields) (ps := ["value", "most"]) (mg := mg) KX ?s fun S_are_fields => ?_
    (case s =>
      refine' Vt.stands KX G ?a ?l ?c ?k (fun _ _ _ _ _ _ us hl => match us, hl with | [_, _], _ => rfl)
      (case a => k_is); (case l => k_is); (case c => k_is); (case k => k_is))
    refine' Vt.need (x := "are_items") (st := Vt.s_are_items) (ps := ["value"]) (mg := mg) KX ?s fun S_are_items => ?_
    (case s =>
      refine' Vt.stands KX G ?a ?l ?c ?k (fun _ _ _ _ _ _ us hl => match us, hl with | [_], _ => rfl)
      (case a => k_is); (case l => k_is); (case c => k_is); (case k => k_is))
    refine' Vt.need (x := "begins_as_function") (st := Vt.s_begins_as_function) (ps := ["value"]) (mg := mg) KX ?s fun S_begins_as_function => ?_
    (case s =>
      refine' Vt.stands KX G ?a ?l ?c ?k (fun _ _ _ _ _ _ us hl => match us, hl with | [_], _ => rfl)
      (case a => k_is); (case l => k_is); (case c => k_is); (case k => k_is))
    refine' Vt.need (x := "inner_of_var") (st := Vt.s_inner_of_var) (ps := ["node"]) (mg := mg) KX ?s fun S_inner_of_var => ?_
    (case s =>
      refine' Vt.stands KX G ?a ?l ?c ?k (fun _ _ _ _ _ _ us hl => match us, hl with | [_], _ => rfl)
      (case a => k_is); (case l => k_is); (case c => k_is); (case k => k_is))
    refine' Vt.need (x := "inner_of_int") (st := Vt.s_inner_of_int) (ps := ["node"]) (mg := mg) KX ?s fun S_inner_of_int => ?_
    (case s =>
      refine' Vt.stands KX G ?a ?l ?c ?k (fun _ _ _ _ _ _ us hl => match us, hl with | [_], _ => rfl)
      (case a => k_is); (case l => k_is); (case c => k_is); (case k => k_is))
    refine' Vt.need (x := "inner_of_bool") (st := Vt.s_inner_of_bool) (ps := ["node"]) (mg := mg) KX ?s fun S_inner_of_bool => ?_
    (case s =>
      refine' Vt.stands KX G ?a ?l ?c ?k (fun _ _ _ _ _ _ us hl => match us, hl with | [_], _ => rfl)
      (case a => k_is); (case l => k_is); (case c => k_is); (case k => k_is))
    refine' Vt.need (x := "inner_of_fun") (st := Vt.s_inner_of_fun) (ps := ["node"]) (mg := mg) KX ?s fun S_inner_of_fun => ?_
    (case s =>
      refine' Vt.stands KX G ?a ?l ?c ?k (fun _ _ _ _ _ _ us hl => match us, hl with | [_], _ => rfl)
      (case a => k_is); (case l => k_is); (case c => k_is); (case k => k_is))
    refine' Vt.need (x := "inner_of_app") (st := Vt.s_inner_of_app) (ps := ["node"]) (mg := mg) KX ?s fun S_inner_of_app => ?_
    (case s =>
      refine' Vt.stands KX G ?a ?l ?c ?k (fun _ _ _ _ _ _ us hl => match us, hl with | [_], _ => rfl)
      (case a => k_is); (case l => k_is); (case c => k_is); (case k => k_is))
    refine' Vt.need (x := "inner_of_let") (st := Vt.s_inner_of_let) (ps := ["node"]) (mg := mg) KX ?s fun S_inner_of_let => ?_
    (case s =>
      refine' Vt.stands KX G ?a ?l ?c ?k (fun _ _ _ _ _ _ us hl => match us, hl with | [_], _ => rfl)
      (case a => k_is); (case l => k_is); (case c => k_is); (case k => k_is))
    refine' Vt.need (x := "inner_of_rec") (st := Vt.s_inner_of_rec) (ps := ["node"]) (mg := mg) KX ?s fun S_inner_of_rec => ?_
    (case s =>
      refine' Vt.stands KX G ?a ?l ?c ?k (fun _ _ _ _ _ _ us hl => match us, hl with | [_], _ => rfl)
      (case a => k_is); (case l => k_is); (case c => k_is); (case k => k_is))
    refine' Vt.need (x := "inner_of_if") (st := Vt.s_inner_of_if) (ps := ["node"]) (mg := mg) KX ?s fun S_inner_of_if => ?_
    (case s =>
      refine' Vt.stands KX G ?a ?l ?c ?k (fun _ _ _ _ _ _ us hl => match us, hl with | [_], _ => rfl)
      (case a => k_is); (case l => k_is); (case c => k_is); (case k => k_is))
    refine' Vt.need (x := "inner_of_tuple") (st := Vt.s_inner_of_tuple) (ps := ["node"]) (mg := mg) KX ?s fun S_inner_of_tuple => ?_
    (case s =>
      refine' Vt.stands KX G ?a ?l ?c ?k (fun _ _ _ _ _ _ us hl => match us, hl with | [_], _ => rfl)
      (case a => k_is); (case l => k_is); (case c => k_is); (case k => k_is))
    refine' Vt.need (x := "inner_of_part") (st := Vt.s_inner_of_part) (ps := ["node"]) (mg := mg) KX ?s fun S_inner_of_part => ?_
    (case s =>
      refine' Vt.stands KX G ?a ?l ?c ?k (fun _ _ _ _ _ _ us hl => match us, hl with | [_], _ => rfl)
      (case a => k_is); (case l => k_is); (case c => k_is); (case k => k_is))
    refine' Vt.need (x := "inner_of_record") (st := Vt.s_inner_of_record) (ps := ["node"]) (mg := mg) KX ?s fun S_inner_of_record => ?_
    (case s =>
      refine' Vt.stands KX G ?a ?l ?c ?k (fun _ _ _ _ _ _ us hl => match us, hl with | [_], _ => rfl)
      (case a => k_is); (case l => k_is); (case c => k_is); (case k => k_is))
    refine' Vt.need (x := "inner_of_field") (st := Vt.s_inner_of_field) (ps := ["node"]) (mg := mg) KX ?s fun S_inner_of_field => ?_
    (case s =>
      refine' Vt.stands KX G ?a ?l ?c ?k (fun _ _ _ _ _ _ us hl => match us, hl with | [_], _ => rfl)
      (case a => k_is); (case l => k_is); (case c => k_is); (case k => k_is))
    refine' Vt.need (x := "inner_of_with") (st := Vt.s_inner_of_with) (ps := ["node"]) (mg := mg) KX ?s fun S_inner_of_with => ?_
    (case s =>
      refine' Vt.stands KX G ?a ?l ?c ?k (fun _ _ _ _ _ _ us hl => match us, hl with | [_], _ => rfl)
      (case a => k_is); (case l => k_is); (case c => k_is); (case k => k_is))
    refine' Vt.need (x := "inner_terms") (st := Vt.s_inner_terms) (ps := ["value"]) (mg := mg) KX ?s fun S_inner_terms => ?_
    (case s =>
      refine' Vt.stands KX G ?a ?l ?c ?k (fun _ _ _ _ _ _ us hl => match us, hl with | [_], _ => rfl)
      (case a => k_is); (case l => k_is); (case c => k_is); (case k => k_is))
    refine' Vt.need (x := "levels_if_term") (st := Vt.s_levels_if_term) (ps := ["value"]) (mg := mg) KX ?s fun S_levels_if_term => ?_
    (case s =>
      refine' Vt.stands KX G ?a ?l ?c ?k (fun _ _ _ _ _ _ us hl => match us, hl with | [_], _ => rfl)
      (case a => k_is); (case l => k_is); (case c => k_is); (case k => k_is))
    refine' Vt.need (x := "levels_of") (st := Vt.s_levels_of) (ps := ["term"]) (mg := mg) KX ?s fun S_levels_of => ?_
    (case s =>
      refine' Vt.stands KX G ?a ?l ?c ?k (fun _ _ _ _ _ _ us hl => match us, hl with | [_], _ => rfl)
      (case a => k_is); (case l => k_is); (case c => k_is); (case k => k_is))
    refine' Vt.need (x := "check_term") (st := Vt.s_check_term) (ps := ["value"]) (mg := mg) KX ?s fun S_check_term => ?_
    (case s =>
      refine' Vt.stands KX G ?a ?l ?c ?k (fun _ _ _ _ _ _ us hl => match us, hl with | [_], _ => rfl)
      (case a => k_is); (case l => k_is); (case c => k_is); (case k => k_is))
    refine' Vt.need (x := "is_written_integer") (st := Vt.s_is_written_integer) (ps := ["word"]) (mg := mg) KX ?s fun S_is_written_integer => ?_
    (case s =>
      refine' Vt.stands KX G ?a ?l ?c ?k (fun _ _ _ _ _ _ us hl => match us, hl with | [_], _ => rfl)
      (case a => k_is); (case l => k_is); (case c => k_is); (case k => k_is))
    refine' Vt.need (x := "integer_of") (st := Vt.s_integer_of) (ps := ["word"]) (mg := mg) KX ?s fun S_integer_of => ?_
    (case s =>
      refine' Vt.stands KX G ?a ?l ?c ?k (fun _ _ _ _ _ _ us hl => match us, hl with | [_], _ => rfl)
      (case a => k_is); (case l => k_is); (case c => k_is); (case k => k_is))
    refine' Vt.need (x := "can_be_name") (st := Vt.s_can_be_name) (ps := ["word"]) (mg := mg) KX ?s fun S_can_be_name => ?_
    (case s =>
      refine' Vt.stands KX G ?a ?l ?c ?k (fun _ _ _ _ _ _ us hl => match us, hl with | [_], _ => rfl)
      (case a => k_is); (case l => k_is); (case c => k_is); (case k => k_is))
    refine' Vt.need (x := "want") (st := Vt.s_want) (ps := ["wanted", "behind"]) (mg := mg) KX ?s fun S_want => ?_
    (case s =>
      refine' Vt.stands KX G ?a ?l ?c ?k (fun _ _ _ _ _ _ us hl => match us, hl with | [_, _], _ => rfl)
      (case a => k_is); (case l => k_is); (case c => k_is); (case k => k_is))
    refine' Vt.need (x := "take_word") (st := Vt.s_take_word) (ps := ["word", "which", "wanted", "values"]) (mg := mg) KX ?s fun S_take_word => ?_
    (case s =>
      refine' Vt.stands KX G ?a ?l ?c ?k (fun _ _ _ _ _ _ us hl => match us, hl with | [_, _, _, _], _ => rfl)
      (case a => k_is); (case l => k_is); (case c => k_is); (case k => k_is))
    refine' Vt.need (x := "take_name") (st := Vt.s_take_name) (ps := ["word", "which", "wanted", "values"]) (mg := mg) KX ?s fun S_take_name => ?_
    (case s =>
      refine' Vt.stands KX G ?a ?l ?c ?k (fun _ _ _ _ _ _ us hl => match us, hl with | [_, _, _, _], _ => rfl)
      (case a => k_is); (case l => k_is); (case c => k_is); (case k => k_is))
    refine' Vt.need (x := "take_integer") (st := Vt.s_take_integer) (ps := ["word", "which", "wanted", "values"]) (mg := mg) KX ?s fun S_take_integer => ?_
    (case s =>
      refine' Vt.stands KX G ?a ?l ?c ?k (fun _ _ _ _ _ _ us hl => match us, hl with | [_, _, _, _], _ => rfl)
      (case a => k_is); (case l => k_is); (case c => k_is); (case k => k_is))
    refine' Vt.need (x := "take_term") (st := Vt.s_take_term) (ps := ["word", "which", "wanted", "values"]) (mg := mg) KX ?s fun S_take_term => ?_
    (case s =>
      refine' Vt.stands KX G ?a ?l ?c ?k (fun _ _ _ _ _ _ us hl => match us, hl with | [_, _, _, _], _ => rfl)
      (case a => k_is); (case l => k_is); (case c => k_is); (case k => k_is))
    refine' Vt.need (x := "take_opened") (st := Vt.s_take_opened) (ps := ["word", "which", "wanted", "values"]) (mg := mg) KX ?s fun S_take_opened => ?_
    (case s =>
      refine' Vt.stands KX G ?a ?l ?c ?k (fun _ _ _ _ _ _ us hl => match us, hl with | [_, _, _, _], _ => rfl)
      (case a => k_is); (case l => k_is); (case c => k_is); (case k => k_is))
    refine' Vt.need (x := "take_begun") (st := Vt.s_take_begun) (ps := ["word", "which", "wanted", "values"]) (mg := mg) KX ?s fun S_take_begun => ?_
    (case s =>
      refine' Vt.stands KX G ?a ?l ?c ?k (fun _ _ _ _ _ _ us hl => match us, hl with | [_, _, _, _], _ => rfl)
      (case a => k_is); (case l => k_is); (case c => k_is); (case k => k_is))
    refine' Vt.need (x := "take_items") (st := Vt.s_take_items) (ps := ["word", "which", "wanted", "values"]) (mg := mg) KX ?s fun S_take_items => ?_
    (case s =>
      refine' Vt.stands KX G ?a ?l ?c ?k (fun _ _ _ _ _ _ us hl => match us, hl with | [_, _, _, _], _ => rfl)
      (case a => k_is); (case l => k_is); (case c => k_is); (case k => k_is))
    refine' Vt.need (x := "take_fields") (st := Vt.s_take_fields) (ps := ["word", "which", "wanted", "values"]) (mg := mg) KX ?s fun S_take_fields => ?_
    (case s =>
      refine' Vt.stands KX G ?a ?l ?c ?k (fun _ _ _ _ _ _ us hl => match us, hl with | [_, _, _, _], _ => rfl)
      (case a => k_is); (case l => k_is); (case c => k_is); (case k => k_is))
    refine' Vt.need (x := "build") (st := Vt.s_build) (ps := ["which", "values"]) (mg := mg) KX ?s fun S_build => ?_
    (case s =>
      refine' Vt.stands KX G ?a ?l ?c ?k (fun _ _ _ _ _ _ us hl => match us, hl with | [_, _], _ => rfl)
      (case a => k_is); (case l => k_is); (case c => k_is); (case k => k_is))
    refine' Vt.need (x := "build_all") (st := Vt.s_build_all) (ps := ["wanted", "values"]) (mg := mg) KX ?s fun S_build_all => ?_
    (case s =>
      refine' Vt.stands KX G ?a ?l ?c ?k (fun _ _ _ _ _ _ us hl => match us, hl with | [_, _], _ => rfl)
      (case a => k_is); (case l => k_is); (case c => k_is); (case k => k_is))
    refine' Vt.need (x := "term_of_words") (st := Vt.s_term_of_words) (ps := ["words"]) (mg := mg) KX ?s fun S_term_of_words => ?_
    (case s =>
      refine' Vt.stands KX G ?a ?l ?c ?k (fun _ _ _ _ _ _ us hl => match us, hl with | [_], _ => rfl)
      (case a => k_is); (case l => k_is); (case c => k_is); (case k => k_is))
    refine' Vt.need (x := "read_term") (st := Vt.s_read_term) (ps := ["text"]) (mg := mg) KX ?s fun S_read_term => ?_
    (case s =>
      refine' Vt.stands KX G ?a ?l ?c ?k (fun _ _ _ _ _ _ us hl => match us, hl with | [_], _ => rfl)
      (case a => k_is); (case l => k_is); (case c => k_is); (case k => k_is))
    refine' Vt.need (x := "list_pieces") (st := Vt.s_list_pieces) (ps := ["begin", "groups", "end"]) (mg := mg) KX ?s fun S_list_pieces => ?_
    (case s =>
      refine' Vt.stands KX G ?a ?l ?c ?k (fun _ _ _ _ _ _ us hl => match us, hl with | [_, _, _], _ => rfl)
      (case a => k_is); (case l => k_is); (case c => k_is); (case k => k_is))
    refine' Vt.need (x := "pieces_of") (st := Vt.s_pieces_of) (ps := ["node"]) (mg := mg) KX ?s fun S_pieces_of => ?_
    (case s =>
      refine' Vt.stands KX G ?a ?l ?c ?k (fun _ _ _ _ _ _ us hl => match us, hl with | [_], _ => rfl)
      (case a => k_is); (case l => k_is); (case c => k_is); (case k => k_is))
    refine' Vt.need (x := "term_text") (st := Vt.s_term_text) (ps := ["term"]) (mg := mg) KX ?s fun S_term_text => ?_
    (case s =>
      refine' Vt.stands KX G ?a ?l ?c ?k (fun _ _ _ _ _ _ us hl => match us, hl with | [_], _ => rfl)
      (case a => k_is); (case l => k_is); (case c => k_is); (case k => k_is))
    have S := Vt.LawDefs.mk S_law_next S_law_one S_law_source_of S_law_cell_at S_law_leaf S_law_record S_law_term S_law_words S_law_own_name S_law_wide S_law_refused S_law_names_right S_law
    have S1 := Vt.CoreDefs.mk S_is_integer S_is_integer_within S_is_name S_are_names S_are_ascending S_are_fields S_are_items S_begins_as_function S_inner_of_var S_inner_of_int S_inner_of_bool S_inner_of_fun S_inner_of_app S_inner_of_let S_inner_of_rec S_inner_of_if S_inner_of_tuple S_inner_of_part S_inner_of_record S_inner_of_field S_inner_of_with S_inner_terms S_levels_if_term S_levels_of S_check_term
    have S2 := Vt.MoreDefs.mk S_is_written_integer S_integer_of S_can_be_name S_want S_take_word S_take_name S_take_integer S_take_term S_take_opened S_take_begun S_take_items S_take_fields S_build S_build_all S_term_of_words S_read_term S_list_pieces S_pieces_of S_term_text
    have z_int : mg "int" = none := PySem.W.mg_none_of KX G (by k_is)
    have z_len : mg "len" = none := PySem.W.mg_none_of KX G (by k_is)
    have z_list : mg "list" = none := PySem.W.mg_none_of KX G (by k_is)
    have z_tuple : mg "tuple" = none := PySem.W.mg_none_of KX G (by k_is)
    have z_str : mg "str" = none := PySem.W.mg_none_of KX G (by k_is)
    have z_bool : mg "bool" = none := PySem.W.mg_none_of KX G (by k_is)
    have z_set : mg "set" = none := PySem.W.mg_none_of KX G (by k_is)
    have z_isinstance : mg "isinstance" = none := PySem.W.mg_none_of KX G (by k_is)
    have z_all : mg "all" = none := PySem.W.mg_none_of KX G (by k_is)
    have z_sorted : mg "sorted" = none := PySem.W.mg_none_of KX G (by k_is)
    have z_range : mg "range" = none := PySem.W.mg_none_of KX G (by k_is)
    have z_enumerate : mg "enumerate" = none := PySem.W.mg_none_of KX G (by k_is)
    have z_zip : mg "zip" = none := PySem.W.mg_none_of KX G (by k_is)
    have z_reversed : mg "reversed" = none := PySem.W.mg_none_of KX G (by k_is)
    have z_repr : mg "repr" = none := PySem.W.mg_none_of KX G (by k_is)
    have z_max : mg "max" = none := PySem.W.mg_none_of KX G (by k_is)
    have Z : Vt.Blt mg := ⟨z_int, z_len, z_list, z_tuple, z_str, z_bool, z_set, z_isinstance, z_all, z_sorted, z_range, z_enumerate, z_zip, z_reversed, z_repr⟩
    refine' Vt.needN (x := "MOST_NODES") (i := 400) (mg := mg) KX ?i fun c_MOST_NODES => ?_
    (case i => exact ⟨_, PySem.W.mg_of KX G (by k_is)⟩)
    refine' Vt.needN (x := "MOST_DEPTH") (i := 100) (mg := mg) KX ?i fun c_MOST_DEPTH => ?_
    (case i => exact ⟨_, PySem.W.mg_of KX G (by k_is)⟩)
    refine' Vt.needN (x := "MOST_LETTERS") (i := 8) (mg := mg) KX ?i fun c_MOST_LETTERS => ?_
    (case i => exact ⟨_, PySem.W.mg_of KX G (by k_is)⟩)
    refine' Vt.needN (x := "LEAST_ITEMS") (i := 2) (mg := mg) KX ?i fun c_LEAST_ITEMS => ?_
    (case i => exact ⟨_, PySem.W.mg_of KX G (by k_is)⟩)
    refine' Vt.needN (x := "MOST_ITEMS") (i := 6) (mg := mg) KX ?i fun c_MOST_ITEMS => ?_
    (case i => exact ⟨_, PySem.W.mg_of KX G (by k_is)⟩)
    refine' Vt.needN (x := "MOST_FIELDS") (i := 12) (mg := mg) KX ?i fun c_MOST_FIELDS => ?_
    (case i => exact ⟨_, PySem.W.mg_of KX G (by k_is)⟩)
    refine' Vt.needN (x := "GREATEST") (i := (10 ^ 30)) (mg := mg) KX ?i fun c_GREATEST => ?_
    (case i => exact ⟨_, PySem.W.mg_of KX G (by k_is)⟩)
    refine' Vt.needN (x := "MANY_DIGITS") (i := 40) (mg := mg) KX ?i fun c_MANY_DIGITS => ?_
    (case i => exact ⟨_, PySem.W.mg_of KX G (by k_is)⟩)
    have C0 : Vt.Cst mg := ⟨c_MOST_NODES, c_MOST_DEPTH, c_MOST_LETTERS, c_LEAST_ITEMS, c_MOST_ITEMS, c_MOST_FIELDS, c_GREATEST⟩
    refine' Vt.needX (mg := mg) KX ?x fun c_NO_NAMES => ?_
    (case x =>
      refine' Vt.nn_of KX G ?a ?l ?v ?z
      (case a => k_is); (case l => k_is); (case v => repeat (first | exact .nil | refine .cons rfl ?_ | refine .cons ⟨_, rfl⟩ ?_)); (case z => decide))
    have C4 : Vt.Cst4 _ mg := ⟨c_MANY_DIGITS, c_NO_NAMES⟩
    refine' Vt.need1 (w := w) (mg := mg) KX ?d fun D1 es1 n1 T1 => ?_
    (case d =>
      refine' ⟨_, _, _, Vt.Tab.mk (PySem.W.mg_of KX G ?a) ⟨?l, ?k, ?o⟩ (Vt.tab_of KX G ?t0 ?m0) (Vt.tab_of KX G ?t1 ?m1) (Vt.tab_of KX G ?t2 ?m2) (Vt.tab_of KX G ?t3 ?m3) (Vt.tab_of KX G ?t4 ?m4) (Vt.tab_of KX G ?t5 ?m5) (Vt.tab_of KX G ?t6 ?m6) (Vt.tab_of KX G ?t7 ?m7) (Vt.tab_of KX G ?t8 ?m8) (Vt.tab_of KX G ?t9 ?m9) (Vt.tab_of KX G ?t10 ?m10) (Vt.tab_of KX G ?t11 ?m11) (Vt.tab_of KX G ?t12 ?m12)⟩
      (case a => k_is); (case l => k_is); (case k => repeat (first | exact True.intro | refine ⟨⟨_, _, rfl, rfl⟩, ?_⟩)); (case o => rfl)
      (case t0 => k_is); (case m0 => k_is); (case t1 => k_is); (case m1 => k_is); (case t2 => k_is); (case m2 => k_is); (case t3 => k_is); (case m3 => k_is); (case t4 => k_is); (case m4 => k_is); (case t5 => k_is); (case m5 => k_is); (case t6 => k_is); (case m6 => k_is); (case t7 => k_is); (case m7 => k_is); (case t8 => k_is); (case m8 => k_is); (case t9 => k_is); (case m9 => k_is); (case t10 => k_is); (case m10 => k_is); (case t11 => k_is); (case m11 => k_is); (case t12 => k_is); (case m12 => k_is))
    refine' Vt.need2 (w := w) (mg := mg) KX ?d fun D2 es2 n2 T2 => ?_
    (case d =>
      refine' ⟨_, _, _, Vt.TabT.mk (PySem.W.mg_of KX G ?a) ⟨?l, ?k, ?o⟩ (Vt.tab_of KX G ?t0 ?m0) (Vt.tab_of KX G ?t1 ?m1) (Vt.tab_of KX G ?t2 ?m2) (Vt.tab_of KX G ?t3 ?m3) (Vt.tab_of KX G ?t4 ?m4) (Vt.tab_of KX G ?t5 ?m5) (Vt.tab_of KX G ?t6 ?m6) (Vt.tab_of KX G ?t7 ?m7)⟩
      (case a => k_is); (case l => k_is); (case k => repeat (first | exact True.intro | refine ⟨⟨_, _, rfl, rfl⟩, ?_⟩)); (case o => rfl)
      (case t0 => k_is); (case m0 => k_is); (case t1 => k_is); (case m1 => k_is); (case t2 => k_is); (case m2 => k_is); (case t3 => k_is); (case m3 => k_is); (case t4 => k_is); (case m4 => k_is); (case t5 => k_is); (case m5 => k_is); (case t6 => k_is); (case m6 => k_is); (case t7 => k_is); (case m7 => k_is))
    refine' Vt.need3 (w := w) (mg := mg) KX ?d fun D3 es3 n3 T3 => ?_
    (case d =>
      refine' ⟨_, _, _, Vt.TabM.mk (PySem.W.mg_of KX G ?a) ⟨?l, ?k, ?o⟩ (Vt.int_of ?t0) (Vt.int_of ?t1) (Vt.int_of ?t2) (Vt.int_of ?t3) (Vt.int_of ?t4) (Vt.int_of ?t5) (Vt.int_of ?t6) (Vt.int_of ?t7) (Vt.int_of ?t8) (Vt.int_of ?t9)⟩
      (case a => k_is); (case l => k_is); (case k => repeat (first | exact True.intro | refine ⟨⟨_, _, rfl, rfl⟩, ?_⟩)); (case o => rfl)
      (case t0 => k_is); (case t1 => k_is); (case t2 => k_is); (case t3 => k_is); (case t4 => k_is); (case t5 => k_is); (case t6 => k_is); (case t7 => k_is); (case t8 => k_is); (case t9 => k_is))
    refine' Vt.need4 (w := w) (mg := mg) KX ?d fun D4 es4 n4 T4 => ?_
    (case d =>
      refine' ⟨_, _, _, Vt.TabW.mk (PySem.W.mg_of KX G ?a) ⟨?l, ?k, ?o⟩ (Vt.bnd_of ?t0 ?m0 ?v0 ?z0) (Vt.bnd_of ?t1 ?m1 ?v1 ?z1) (Vt.bnd_of ?t2 ?m2 ?v2 ?z2) (Vt.bnd_of ?t3 ?m3 ?v3 ?z3) (Vt.bnd_of ?t4 ?m4 ?v4 ?z4) (Vt.bnd_of ?t5 ?m5 ?v5 ?z5) (Vt.bnd_of ?t6 ?m6 ?v6 ?z6) (Vt.bnd_of ?t7 ?m7 ?v7 ?z7) (Vt.bnd_of ?t8 ?m8 ?v8 ?z8)⟩
      (case a => k_is); (case l => k_is); (case k => repeat (first | exact True.intro | refine ⟨⟨_, _, rfl, rfl⟩, ?_⟩)); (case o => rfl)
      (case t0 => k_is); (case m0 => k_is); (case v0 => repeat (first | exact .nil | refine .cons rfl ?_ | refine .cons ⟨_, rfl⟩ ?_)); (case z0 => decide); (case t1 => k_is); (case m1 => k_is); (case v1 => repeat (first | exact .nil | refine .cons rfl ?_ | refine .cons ⟨_, rfl⟩ ?_)); (case z1 => decide); (case t2 => k_is); (case m2 => k_is); (case v2 => repeat (first | exact .nil | refine .cons rfl ?_ | refine .cons ⟨_, rfl⟩ ?_)); (case z2 => decide); (case t3 => k_is); (case m3 => k_is); (case v3 => repeat (first | exact .nil | refine .cons rfl ?_ | refine .cons ⟨_, rfl⟩ ?_)); (case z3 => decide); (case t4 => k_is); (case m4 => k_is); (case v4 => repeat (first | exact .nil | refine .cons rfl ?_ | refine .cons ⟨_, rfl⟩ ?_)); (case z4 => decide); (case t5 => k_is); (case m5 => k_is); (case v5 => repeat (first | exact .nil | refine .cons rfl ?_ | refine .cons ⟨_, rfl⟩ ?_)); (case z5 => decide); (case t6 => k_is); (case m6 => k_is); (case v6 => repeat (first | exact .nil | refine .cons rfl ?_ | refine .cons ⟨_, rfl⟩ ?_)); (case z6 => decide); (case t7 => k_is); (case m7 => k_is); (case v7 => repeat (first | exact .nil | refine .cons rfl ?_ | refine .cons ⟨_, rfl⟩ ?_)); (case z7 => decide); (case t8 => k_is); (case m8 => k_is); (case v8 => repeat (first | exact .nil | refine .cons rfl ?_ | refine .cons ⟨_, rfl⟩ ?_)); (case z8 => decide))
    refine' Vt.need5 (w := w) (mg := mg) KX ?d fun D5 es5 n5 T5 => ?_
    (case d =>
      refine' ⟨_, _, _, Vt.TabB.mk (PySem.W.mg_of KX G ?a) ⟨?l, ?k, ?o⟩ (Vt.bh_of ?t0 ?m0 ?v0 ?z0 (Vt.al_cons (Vt.wn_of ?p0_0 ?q0_0 ?r0_0) (Vt.al_cons (Vt.wn_of ?p0_1 ?q0_1 ?r0_1) (Vt.al_cons (Vt.wn_of ?p0_2 ?q0_2 ?r0_2) (Vt.al_cons (Vt.wn_of ?p0_3 ?q0_3 ?r0_3) (Vt.al_cons (Vt.wn_of ?p0_4 ?q0_4 ?r0_4) Vt.al_nil)))))) (Vt.bh_of ?t1 ?m1 ?v1 ?z1 (Vt.al_cons (Vt.wn_of ?p1_0 ?q1_0 ?r1_0) (Vt.al_cons (Vt.wn_of ?p1_1 ?q1_1 ?r1_1) (Vt.al_cons (Vt.wn_of ?p1_2 ?q1_2 ?r1_2) (Vt.al_cons (Vt.wn_of ?p1_3 ?q1_3 ?r1_3) (Vt.al_cons (Vt.wn_of ?p1_4 ?q1_4 ?r1_4) (Vt.al_cons (Vt.wn_of ?p1_5 ?q1_5 ?r1_5) (Vt.al_cons (Vt.wn_of ?p1_6 ?q1_6 ?r1_6) Vt.al_nil)))))))) (Vt.bh_of ?t2 ?m2 ?v2 ?z2 (Vt.al_cons (Vt.wn_of ?p2_0 ?q2_0 ?r2_0) (Vt.al_cons (Vt.wn_of ?p2_1 ?q2_1 ?r2_1) (Vt.al_cons (Vt.wn_of ?p2_2 ?q2_2 ?r2_2) (Vt.al_cons (Vt.wn_of ?p2_3 ?q2_3 ?r2_3) (Vt.al_cons (Vt.wn_of ?p2_4 ?q2_4 ?r2_4) (Vt.al_cons (Vt.wn_of ?p2_5 ?q2_5 ?r2_5) (Vt.al_cons (Vt.wn_of ?p2_6 ?q2_6 ?r2_6) Vt.al_nil)))))))) (Vt.bh_of ?t3 ?m3 ?v3 ?z3 (Vt.al_cons (Vt.wn_of ?p3_0 ?q3_0 ?r3_0) (Vt.al_cons (Vt.wn_of ?p3_1 ?q3_1 ?r3_1) (Vt.al_cons (Vt.wn_of ?p3_2 ?q3_2 ?r3_2) (Vt.al_cons (Vt.wn_of ?p3_3 ?q3_3 ?r3_3) (Vt.al_cons (Vt.wn_of ?p3_4 ?q3_4 ?r3_4) (Vt.al_cons (Vt.wn_of ?p3_5 ?q3_5 ?r3_5) (Vt.al_cons (Vt.wn_of ?p3_6 ?q3_6 ?r3_6) Vt.al_nil)))))))) (Vt.bh_of ?t4 ?m4 ?v4 ?z4 (Vt.al_cons (Vt.wn_of ?p4_0 ?q4_0 ?r4_0) (Vt.al_cons (Vt.wn_of ?p4_1 ?q4_1 ?r4_1) (Vt.al_cons (Vt.wn_of ?p4_2 ?q4_2 ?r4_2) (Vt.al_cons (Vt.wn_of ?p4_3 ?q4_3 ?r4_3) Vt.al_nil))))) (Vt.bh_of ?t5 ?m5 ?v5 ?z5 (Vt.al_cons (Vt.wn_of ?p5_0 ?q5_0 ?r5_0) (Vt.al_cons (Vt.wn_of ?p5_1 ?q5_1 ?r5_1) Vt.al_nil))) (Vt.bh_of ?t6 ?m6 ?v6 ?z6 (Vt.al_cons (Vt.wn_of ?p6_0 ?q6_0 ?r6_0) (Vt.al_cons (Vt.wn_of ?p6_1 ?q6_1 ?r6_1) (Vt.al_cons (Vt.wn_of ?p6_2 ?q6_2 ?r6_2) Vt.al_nil)))) (Vt.bh_of ?t7 ?m7 ?v7 ?z7 (Vt.al_cons (Vt.wn_of ?p7_0 ?q7_0 ?r7_0) (Vt.al_cons (Vt.wn_of ?p7_1 ?q7_1 ?r7_1) (Vt.al_cons (Vt.wn_of ?p7_2 ?q7_2 ?r7_2) (Vt.al_cons (Vt.wn_of ?p7_3 ?q7_3 ?r7_3) (Vt.al_cons (Vt.wn_of ?p7_4 ?q7_4 ?r7_4) Vt.al_nil)))))) (Vt.bh_of ?t8 ?m8 ?v8 ?z8 (Vt.al_cons (Vt.wn_of ?p8_0 ?q8_0 ?r8_0) (Vt.al_cons (Vt.wn_of ?p8_1 ?q8_1 ?r8_1) (Vt.al_cons (Vt.wn_of ?p8_2 ?q8_2 ?r8_2) Vt.al_nil)))) (Vt.bh_of ?t9 ?m9 ?v9 ?z9 (Vt.al_cons (Vt.wn_of ?p9_0 ?q9_0 ?r9_0) (Vt.al_cons (Vt.wn_of ?p9_1 ?q9_1 ?r9_1) (Vt.al_cons (Vt.wn_of ?p9_2 ?q9_2 ?r9_2) (Vt.al_cons (Vt.wn_of ?p9_3 ?q9_3 ?r9_3) Vt.al_nil)))))⟩
      (case a => k_is); (case l => k_is); (case k => repeat (first | exact True.intro | refine ⟨⟨_, _, rfl, rfl⟩, ?_⟩)); (case o => rfl)
      (case t0 => k_is); (case m0 => k_is); (case v0 => repeat (first | exact .nil | refine .cons rfl ?_ | refine .cons ⟨_, rfl⟩ ?_)); (case z0 => decide)
      (case p0_0 => k_is); (case q0_0 => repeat (first | exact .nil | refine .cons rfl ?_ | refine .cons ⟨_, rfl⟩ ?_)); (case r0_0 => decide)
      (case p0_1 => k_is); (case q0_1 => repeat (first | exact .nil | refine .cons rfl ?_ | refine .cons ⟨_, rfl⟩ ?_)); (case r0_1 => decide)
      (case p0_2 => k_is); (case q0_2 => repeat (first | exact .nil | refine .cons rfl ?_ | refine .cons ⟨_, rfl⟩ ?_)); (case r0_2 => decide)
      (case p0_3 => k_is); (case q0_3 => repeat (first | exact .nil | refine .cons rfl ?_ | refine .cons ⟨_, rfl⟩ ?_)); (case r0_3 => decide)
      (case p0_4 => k_is); (case q0_4 => repeat (first | exact .nil | refine .cons rfl ?_ | refine .cons ⟨_, rfl⟩ ?_)); (case r0_4 => decide)
      (case t1 => k_is); (case m1 => k_is); (case v1 => repeat (first | exact .nil | refine .cons rfl ?_ | refine .cons ⟨_, rfl⟩ ?_)); (case z1 => decide)
      (case p1_0 => k_is); (case q1_0 => repeat (first | exact .nil | refine .cons rfl ?_ | refine .cons ⟨_, rfl⟩ ?_)); (case r1_0 => decide)
      (case p1_1 => k_is); (case q1_1 => repeat (first | exact .nil | refine .cons rfl ?_ | refine .cons ⟨_, rfl⟩ ?_)); (case r1_1 => decide)
      (case p1_2 => k_is); (case q1_2 => repeat (first | exact .nil | refine .cons rfl ?_ | refine .cons ⟨_, rfl⟩ ?_)); (case r1_2 => decide)
      (case p1_3 => k_is); (case q1_3 => repeat (first | exact .nil | refine .cons rfl ?_ | refine .cons ⟨_, rfl⟩ ?_)); (case r1_3 => decide)
      (case p1_4 => k_is); (case q1_4 => repeat (first | exact .nil | refine .cons rfl ?_ | refine .cons ⟨_, rfl⟩ ?_)); (case r1_4 => decide)
      (case p1_5 => k_is); (case q1_5 => repeat (first | exact .nil | refine .cons rfl ?_ | refine .cons ⟨_, rfl⟩ ?_)); (case r1_5 => decide)
      (case p1_6 => k_is); (case q1_6 => repeat (first | exact .nil | refine .cons rfl ?_ | refine .cons ⟨_, rfl⟩ ?_)); (case r1_6 => decide)
      (case t2 => k_is); (case m2 => k_is); (case v2 => repeat (first | exact .nil | refine .cons rfl ?_ | refine .cons ⟨_, rfl⟩ ?_)); (case z2 => decide)
      (case p2_0 => k_is); (case q2_0 => repeat (first | exact .nil | refine .cons rfl ?_ | refine .cons ⟨_, rfl⟩ ?_)); (case r2_0 => decide)
      (case p2_1 => k_is); (case q2_1 => repeat (first | exact .nil | refine .cons rfl ?_ | refine .cons ⟨_, rfl⟩ ?_)); (case r2_1 => decide)
      (case p2_2 => k_is); (case q2_2 => repeat (first | exact .nil | refine .cons rfl ?_ | refine .cons ⟨_, rfl⟩ ?_)); (case r2_2 => decide)
      (case p2_3 => k_is); (case q2_3 => repeat (first | exact .nil | refine .cons rfl ?_ | refine .cons ⟨_, rfl⟩ ?_)); (case r2_3 => decide)
      (case p2_4 => k_is); (case q2_4 => repeat (first | exact .nil | refine .cons rfl ?_ | refine .cons ⟨_, rfl⟩ ?_)); (case r2_4 => decide)
      (case p2_5 => k_is); (case q2_5 => repeat (first | exact .nil | refine .cons rfl ?_ | refine .cons ⟨_, rfl⟩ ?_)); (case r2_5 => decide)
      (case p2_6 => k_is); (case q2_6 => repeat (first | exact .nil | refine .cons rfl ?_ | refine .cons ⟨_, rfl⟩ ?_)); (case r2_6 => decide)
      (case t3 => k_is); (case m3 => k_is); (case v3 => repeat (first | exact .nil | refine .cons rfl ?_ | refine .cons ⟨_, rfl⟩ ?_)); (case z3 => decide)
      (case p3_0 => k_is); (case q3_0 => repeat (first | exact .nil | refine .cons rfl ?_ | refine .cons ⟨_, rfl⟩ ?_)); (case r3_0 => decide)
      (case p3_1 => k_is); (case q3_1 => repeat (first | exact .nil | refine .cons rfl ?_ | refine .cons ⟨_, rfl⟩ ?_)); (case r3_1 => decide)
      (case p3_2 => k_is); (case q3_2 => repeat (first | exact .nil | refine .cons rfl ?_ | refine .cons ⟨_, rfl⟩ ?_)); (case r3_2 => decide)
      (case p3_3 => k_is); (case q3_3 => repeat (first | exact .nil | refine .cons rfl ?_ | refine .cons ⟨_, rfl⟩ ?_)); (case r3_3 => decide)
      (case p3_4 => k_is); (case q3_4 => repeat (first | exact .nil | refine .cons rfl ?_ | refine .cons ⟨_, rfl⟩ ?_)); (case r3_4 => decide)
      (case p3_5 => k_is); (case q3_5 => repeat (first | exact .nil | refine .cons rfl ?_ | refine .cons ⟨_, rfl⟩ ?_)); (case r3_5 => decide)
      (case p3_6 => k_is); (case q3_6 => repeat (first | exact .nil | refine .cons rfl ?_ | refine .cons ⟨_, rfl⟩ ?_)); (case r3_6 => decide)
      (case t4 => k_is); (case m4 => k_is); (case v4 => repeat (first | exact .nil | refine .cons rfl ?_ | refine .cons ⟨_, rfl⟩ ?_)); (case z4 => decide)
      (case p4_0 => k_is); (case q4_0 => repeat (first | exact .nil | refine .cons rfl ?_ | refine .cons ⟨_, rfl⟩ ?_)); (case r4_0 => decide)
      (case p4_1 => k_is); (case q4_1 => repeat (first | exact .nil | refine .cons rfl ?_ | refine .cons ⟨_, rfl⟩ ?_)); (case r4_1 => decide)
      (case p4_2 => k_is); (case q4_2 => repeat (first | exact .nil | refine .cons rfl ?_ | refine .cons ⟨_, rfl⟩ ?_)); (case r4_2 => decide)
      (case p4_3 => k_is); (case q4_3 => repeat (first | exact .nil | refine .cons rfl ?_ | refine .cons ⟨_, rfl⟩ ?_)); (case r4_3 => decide)
      (case t5 => k_is); (case m5 => k_is); (case v5 => repeat (first | exact .nil | refine .cons rfl ?_ | refine .cons ⟨_, rfl⟩ ?_)); (case z5 => decide)
      (case p5_0 => k_is); (case q5_0 => repeat (first | exact .nil | refine .cons rfl ?_ | refine .cons ⟨_, rfl⟩ ?_)); (case r5_0 => decide)
      (case p5_1 => k_is); (case q5_1 => repeat (first | exact .nil | refine .cons rfl ?_ | refine .cons ⟨_, rfl⟩ ?_)); (case r5_1 => decide)
      (case t6 => k_is); (case m6 => k_is); (case v6 => repeat (first | exact .nil | refine .cons rfl ?_ | refine .cons ⟨_, rfl⟩ ?_)); (case z6 => decide)
      (case p6_0 => k_is); (case q6_0 => repeat (first | exact .nil | refine .cons rfl ?_ | refine .cons ⟨_, rfl⟩ ?_)); (case r6_0 => decide)
      (case p6_1 => k_is); (case q6_1 => repeat (first | exact .nil | refine .cons rfl ?_ | refine .cons ⟨_, rfl⟩ ?_)); (case r6_1 => decide)
      (case p6_2 => k_is); (case q6_2 => repeat (first | exact .nil | refine .cons rfl ?_ | refine .cons ⟨_, rfl⟩ ?_)); (case r6_2 => decide)
      (case t7 => k_is); (case m7 => k_is); (case v7 => repeat (first | exact .nil | refine .cons rfl ?_ | refine .cons ⟨_, rfl⟩ ?_)); (case z7 => decide)
      (case p7_0 => k_is); (case q7_0 => repeat (first | exact .nil | refine .cons rfl ?_ | refine .cons ⟨_, rfl⟩ ?_)); (case r7_0 => decide)
      (case p7_1 => k_is); (case q7_1 => repeat (first | exact .nil | refine .cons rfl ?_ | refine .cons ⟨_, rfl⟩ ?_)); (case r7_1 => decide)
      (case p7_2 => k_is); (case q7_2 => repeat (first | exact .nil | refine .cons rfl ?_ | refine .cons ⟨_, rfl⟩ ?_)); (case r7_2 => decide)
      (case p7_3 => k_is); (case q7_3 => repeat (first | exact .nil | refine .cons rfl ?_ | refine .cons ⟨_, rfl⟩ ?_)); (case r7_3 => decide)
      (case p7_4 => k_is); (case q7_4 => repeat (first | exact .nil | refine .cons rfl ?_ | refine .cons ⟨_, rfl⟩ ?_)); (case r7_4 => decide)
      (case t8 => k_is); (case m8 => k_is); (case v8 => repeat (first | exact .nil | refine .cons rfl ?_ | refine .cons ⟨_, rfl⟩ ?_)); (case z8 => decide)
      (case p8_0 => k_is); (case q8_0 => repeat (first | exact .nil | refine .cons rfl ?_ | refine .cons ⟨_, rfl⟩ ?_)); (case r8_0 => decide)
      (case p8_1 => k_is); (case q8_1 => repeat (first | exact .nil | refine .cons rfl ?_ | refine .cons ⟨_, rfl⟩ ?_)); (case r8_1 => decide)
      (case p8_2 => k_is); (case q8_2 => repeat (first | exact .nil | refine .cons rfl ?_ | refine .cons ⟨_, rfl⟩ ?_)); (case r8_2 => decide)
      (case t9 => k_is); (case m9 => k_is); (case v9 => repeat (first | exact .nil | refine .cons rfl ?_ | refine .cons ⟨_, rfl⟩ ?_)); (case z9 => decide)
      (case p9_0 => k_is); (case q9_0 => repeat (first | exact .nil | refine .cons rfl ?_ | refine .cons ⟨_, rfl⟩ ?_)); (case r9_0 => decide)
      (case p9_1 => k_is); (case q9_1 => repeat (first | exact .nil | refine .cons rfl ?_ | refine .cons ⟨_, rfl⟩ ?_)); (case r9_1 => decide)
      (case p9_2 => k_is); (case q9_2 => repeat (first | exact .nil | refine .cons rfl ?_ | refine .cons ⟨_, rfl⟩ ?_)); (case r9_2 => decide)
      (case p9_3 => k_is); (case q9_3 => repeat (first | exact .nil | refine .cons rfl ?_ | refine .cons ⟨_, rfl⟩ ?_)); (case r9_3 => decide))
    refine' Vt.needE (x := "InvalidName") (f := "name") (mg := mg) KX ?e fun C EC => ?_
    (case e =>
      refine' ⟨_, PySem.W.mg_of KX G ?a, ⟨?x, ?y, ?b1, ?d1⟩, ?n, Vt.exm_own ?b ?d ?t ?s⟩
      (case a => k_is); (case x => k_is); (case y => k_is); (case b1 => k_is); (case d1 => k_is); (case n => k_is); (case b => k_is); (case d => k_is); (case t => k_is); (case s => first | rfl | k_is))
    refine' Vt.needI (mg := mg) KX ?i fun CI fI HI => ?_
    (case i =>
      refine' ⟨_, _, Vt.has_InvalidName KX G ?a ?l ?s ?n ?i ?ti ?k ?e ?t ?lf ?cf⟩
      (case a => k_is); (case l => k_is); (case s => k_is); (case n => k_is); (case i => k_is); (case ti => k_is); (case k => k_is); (case e => k_is); (case t => k_is); (case lf => k_is); (case cf => k_is))
    have eC : CI = C := by
      have z := HI.gl.symm.trans EC.gl
      injection z with z
      injection z
    subst eC
    obtain ⟨f, fd, FL, hm, _⟩ := S_law
    have e := hm.symm.trans hmg
    cases e
    refine ⟨fd, fun s u => ?_, fun base hK hG => Vt.law_ok S S1 S2 Z z_max C0 C4 T1 T2 T3 T4 T5 EC HI FL⟩
    obtain ⟨_, _, _, _, _, _, _, _, _, rfl, _, _⟩ := FL.ex
    exact .of_eq rfl

