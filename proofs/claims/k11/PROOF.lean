import PyProof.Rows.All
import Wide.All
import OpenK.AllK
import Wide.FinOn
import HandS.ForMost
import HandS.IsInst
import HandS.Wide
import HandS.Deep
import HandS.Walk
import PyProof.ReprRoads
import PyProof.ReprBulk
import PyProof.P3Eq
import PyProof.P3In
import PyProof.Rows.InDataRows
import HandS.TupAny
import HandS.Codes
import HandS.More
import HandS.Iter
import HandS.TupMul
import HandS.Text
import HandS.Style
import HandS.DictComp
import HandS.Star
import HandS.ExcInit
import HandS.ExcIs
import HandS.ExcField
import HandS.ExcValue
import HandS.TupSets
import HandS.SetBool
import HandS.SortOrd
import KE.LtData
import HandS.TupLen
import HandS.DictTup
import HandS.ListItems
import HandS.Conv
import HandS.FStr
import HandS.OwnEq
import OpenK.KOps
import PyProof.DictFindH
import HandS.DictEq
import HandS.Defaults
import PySem.Challenge.RW_recipelayers_k11_kinds
set_option Elab.async false
set_option linter.all false
set_option maxRecDepth 100000
set_option maxHeartbeats 4000000
namespace DL
open PySem PySem.Spec PyProof.Rows L2
/-! ### data -/
inductive D where
  | non | bl (b : Bool) | int (i : Int) | str (x : Str)
  | lst (xs : List D) | tup (xs : List D) | dK (kvs : List (Key × D)) | dT (kvs : List (List Key × D)) | obj (C : Addr) (fs : List (Str × D)) | slf (a C : Addr) (fs : List (Str × D)) | emp
def keyP : Key → PyData
  | .inl i => .int i
  | .inr x => .str x
mutual
def D.py : D → PyData
  | .non => .none
  | .bl b => .bool b
  | .int i => .int i
  | .str x => .str x
  | .lst xs => .list (pyA xs)
  | .tup xs => .tuple (pyA xs)
  | .dK kvs => .dict (pyK kvs)
  | .dT kvs => .dict (pyT kvs)
  | .obj _ _ => .dict []
  | .slf _ _ _ => .dict []
  | .emp => .dict []
def pyA : List D → List PyData
  | [] => []
  | x :: xs => x.py :: pyA xs
def pyK : List (Key × D) → List (PyData × PyData)
  | [] => []
  | (a, b) :: r => (keyP a, b.py) :: pyK r
def pyT : List (List Key × D) → List (PyData × PyData)
  | [] => []
  | (a, b) :: r => (.tuple (a.map keyP), b.py) :: pyT r
end
mutual
/-- no dict, no object in it -/
def D.flat : D → Bool
  | .non => true
  | .bl _ => true
  | .int _ => true
  | .str _ => true
  | .lst xs => flatA xs
  | .tup xs => flatA xs
  | .dK _ => false
  | .dT _ => false
  | .obj _ _ => false
  | .slf _ _ _ => false
  | .emp => false
def flatA : List D → Bool
  | [] => true
  | x :: xs => x.flat && flatA xs
end
mutual
/-- no object in it -/
def D.bare : D → Bool
  | .non => true
  | .bl _ => true
  | .int _ => true
  | .str _ => true
  | .lst xs => bareA xs
  | .tup xs => bareA xs
  | .dK kvs => bareK kvs
  | .dT kvs => bareT kvs
  | .obj _ _ => false
  | .slf _ _ _ => false
  | .emp => false
def bareA : List D → Bool
  | [] => true
  | x :: xs => x.bare && bareA xs
def bareK : List (Key × D) → Bool
  | [] => true
  | (_, x) :: xs => x.bare && bareK xs
def bareT : List (List Key × D) → Bool
  | [] => true
  | (_, x) :: xs => x.bare && bareT xs
end
/-- what a list or a tuple holds -/
def itemsD : D → Option (List D)
  | .lst ds => some ds
  | .tup ds => some ds
  | .emp => some []
  | _ => none
/-- an own class, as isinstance knows it -/
structure ClsK (K : PySem.W.Frag) (C : Addr) : Prop where
  cl : Cls K C
  ha : PySem.W.findIn K (.ref C) "__class__" = some (some (.builtin "object.__class__"))
  hn : PySem.W.specialIn K (.builtin "object.__class__") "__get__" = some (some (.builtin "getset_descriptor.__get__"))
  ht : PySem.W.takesIn K (.builtin "object.__class__") = some true
  hm : PySem.W.mroIn K C (.type "object") = some true
  no : ∀ T ∈ ["int", "bool", "str", "list", "tuple", "dict"], PySem.W.kitOne K (.ref C) (.type T) = some false
theorem rd_mono {H H' : Hp} (h : ∀ a o, H a = some o → H' a = some o) {a : Addr} {u : HO} (r : Rd H a u) : Rd H' a u := r.imp (h _ _) fun ⟨o, e⟩ => ⟨o, h _ _ e⟩
theorem rd_some {H : Hp} {a : Addr} {u : HO} (r : Rd H a u) : ∃ o, H a = some o := r.elim (fun e => ⟨_, e⟩) fun ⟨_, e⟩ => ⟨_, e⟩
/-- what stands there is no tuple -/
def Thing : Option HO → Prop
  | none => False
  | some (.tup _) => False
  | some _ => True
theorem Thing.ne {o : Option HO} (h : Thing o) : o ≠ none := fun z => by
  rw [z] at h
  exact h
/-- the empty tuple of the text -/
def KEmp (K : PySem.W.Frag) (a : Addr) : Prop := ∃ (o : Obj) (its : Array Value) (n : Nat), K.lookup a = some o ∧ o.cls = .type "tuple" ∧ o.data = .seq its n ∧ its.size ≤ sizeLine ∧ Vals [] its.toList
theorem KEmp.sq {K : PySem.W.Frag} {H : Hp} {a : Addr} (h : KEmp K a) : SqT K H a [] := .inr h
mutual
inductive Rp (K : PySem.W.Frag) (H : Hp) : V → D → Prop
  | non : Rp K H .non .non
  | bl (b : Bool) : Rp K H (.bl b) (.bl b)
  | int (i : Int) : Rp K H (.int i) (.int i)
  | str (x : Str) : Rp K H (.str x) (.str x)
  | lst {a : Addr} {xs : List V} {ds : List D} : H a = some (.lst xs) → RpA K H xs ds → Rp K H (.ref a) (.lst ds)
  | tup {a : Addr} {xs : List V} {ds : List D} : H a = some (.tup xs) → RpA K H xs ds → Rp K H (.ref a) (.tup ds)
  | dK {a : Addr} {kvs : List (Key × V)} {kds : List (Key × D)} : Rd H a (.dK kvs) → kvs.map (·.1) = kds.map (·.1) → RpA K H (kvs.map (·.2)) (kds.map (·.2)) → Rp K H (.ref a) (.dK kds)
  | dT {a : Addr} {kvs : List (List Key × V)} {kds : List (List Key × D)} : Rd H a (.dT kvs) → kvs.map (·.1) = kds.map (·.1) → RpA K H (kvs.map (·.2)) (kds.map (·.2)) → Rp K H (.ref a) (.dT kds)
  | obj {a C dx : Addr} {kvs : List (Str × V)} {kds : List (Str × D)} : H a = some (.ins C dx kvs) → kvs.map (·.1) = kds.map (·.1) → RpA K H (kvs.map (·.2)) (kds.map (·.2)) → ClsK K C → Rp K H (.ref a) (.obj C kds)
  | slf {a C dx : Addr} {kvs : List (Str × V)} {kds : List (Str × D)} : H a = some (.ins C dx kvs) → kvs.map (·.1) = kds.map (·.1) → RpA K H (kvs.map (·.2)) (kds.map (·.2)) → ClsK K C → Rp K H (.ref a) (.slf a C kds)
  | emp {a : Addr} : KEmp K a → Rp K H (.ref a) .emp
inductive RpA (K : PySem.W.Frag) (H : Hp) : List V → List D → Prop
  | nil : RpA K H [] []
  | cons {v : V} {vs : List V} {d : D} {ds : List D} : Rp K H v d → RpA K H vs ds → RpA K H (v :: vs) (d :: ds)
end
section
variable {K : PySem.W.Frag} {H H' : Hp}
mutual
theorem Rp.mono (h : ∀ a o, H a = some o → H' a = some o) : ∀ {v : V} {d : D}, Rp K H v d → Rp K H' v d
  | _, _, .non => .non
  | _, _, .bl b => .bl b
  | _, _, .int i => .int i
  | _, _, .str x => .str x
  | _, _, .lst e r => .lst (h _ _ e) (RpA.mono h r)
  | _, _, .tup e r => .tup (h _ _ e) (RpA.mono h r)
  | _, _, .dK e k r => .dK (rd_mono h e) k (RpA.mono h r)
  | _, _, .dT e k r => .dT (rd_mono h e) k (RpA.mono h r)
  | _, _, .obj e k r c => .obj (h _ _ e) k (RpA.mono h r) c
  | _, _, .slf e k r c => .slf (h _ _ e) k (RpA.mono h r) c
  | _, _, .emp e => .emp e
theorem RpA.mono (h : ∀ a o, H a = some o → H' a = some o) : ∀ {vs : List V} {ds : List D}, RpA K H vs ds → RpA K H' vs ds
  | _, _, .nil => .nil
  | _, _, .cons r t => .cons (Rp.mono h r) (RpA.mono h t)
end
theorem RpA.length : ∀ {vs : List V} {ds : List D}, RpA K H vs ds → vs.length = ds.length
  | _, _, .nil => rfl
  | _, _, .cons _ t => congrArg (· + 1) t.length
theorem RpA.get : ∀ {vs : List V} {ds : List D} {i : Nat} {d : D}, RpA K H vs ds → ds[i]? = some d → ∃ v, vs[i]? = some v ∧ Rp K H v d
  | _, _, 0, _, .cons r _, e => by
    cases e
    exact ⟨_, rfl, r⟩
  | _, _, i + 1, _, .cons _ t, e => t.get (i := i) e
theorem RpA.get' : ∀ {vs : List V} {ds : List D} {i : Nat} {v : V}, RpA K H vs ds → vs[i]? = some v → ∃ d, ds[i]? = some d ∧ Rp K H v d
  | _, _, 0, _, .cons r _, e => by
    cases e
    exact ⟨_, rfl, r⟩
  | _, _, i + 1, _, .cons _ t, e => t.get' (i := i) e
theorem RpA.append : ∀ {vs ws : List V} {ds es : List D}, RpA K H vs ds → RpA K H ws es → RpA K H (vs ++ ws) (ds ++ es)
  | _, _, _, _, .nil, s => s
  | _, _, _, _, .cons r t, s => .cons r (t.append s)
theorem RpA.take : ∀ {vs : List V} {ds : List D} (n : Nat), RpA K H vs ds → RpA K H (vs.take n) (ds.take n)
  | _, _, 0, _ => .nil
  | _, _, _ + 1, .nil => .nil
  | _, _, n + 1, .cons r t => .cons r (t.take n)
theorem RpA.drop : ∀ {vs : List V} {ds : List D} (n : Nat), RpA K H vs ds → RpA K H (vs.drop n) (ds.drop n)
  | _, _, 0, r => r
  | _, _, _ + 1, .nil => .nil
  | _, _, n + 1, .cons _ t => t.drop n
theorem RpA.at {vs : List V} {ds : List D} {i : Int} {d : D} (r : RpA K H vs ds) (e : atI ds i = some d) : ∃ v, atI vs i = some v ∧ Rp K H v d := by
  unfold atI at e ⊢
  rw [r.length]
  cases q : ixN ds.length i with
  | none =>
    rw [q] at e
    cases e
  | some j =>
    rw [q] at e
    exact r.get e
mutual
theorem Rp.dp : ∀ {v : V} {d : D}, Rp K H v d → d.flat = true → Dp K H v d.py
  | _, _, .non, _ => by unfold D.py; exact .non
  | _, _, .bl b, _ => by unfold D.py; exact .bl b
  | _, _, .int i, _ => by unfold D.py; exact .int i
  | _, _, .str x, _ => by unfold D.py; exact .str x
  | _, _, .lst e r, h => by unfold D.py; exact .lst (SqL.of e) (r.dp (by simpa [D.flat] using h))
  | _, _, .tup e r, h => by unfold D.py; exact .tup (SqT.of e) (r.dp (by simpa [D.flat] using h))
  | _, _, .dK _ _ _, h => by simp [D.flat] at h
  | _, _, .dT _ _ _, h => by simp [D.flat] at h
  | _, _, .obj _ _ _ _, h => by simp [D.flat] at h
  | _, _, .slf _ _ _ _, h => by simp [D.flat] at h
  | _, _, .emp _, h => by simp [D.flat] at h
theorem RpA.dp : ∀ {vs : List V} {ds : List D}, RpA K H vs ds → flatA ds = true → DpAll K H vs (pyA ds)
  | _, _, .nil, _ => by unfold pyA; exact .nil
  | _, _, .cons r t, h => by
    simp only [flatA, Bool.and_eq_true] at h
    have h' := h
    unfold pyA
    exact .cons (r.dp h'.1) (t.dp h'.2)
end
end
mutual
theorem D.flat_of : ∀ d : D, d.py.canLay0 = true → d.flat = true
  | .non, _ => rfl
  | .bl _, _ => rfl
  | .int _, _ => rfl
  | .str _, _ => rfl
  | .lst xs, h => by
    simp only [D.flat]
    exact flatA_of xs (by simpa [D.py, PyData.canLay0] using h)
  | .tup xs, h => by
    simp only [D.flat]
    exact flatA_of xs (by simpa [D.py, PyData.canLay0] using h)
  | .dK _, h => by simp [D.py, PyData.canLay0] at h
  | .dT _, h => by simp [D.py, PyData.canLay0] at h
  | .obj _ _, h => by simp [D.py, PyData.canLay0] at h
  | .slf _ _ _, h => by simp [D.py, PyData.canLay0] at h
  | .emp, h => by simp [D.py, PyData.canLay0] at h
theorem flatA_of : ∀ xs : List D, PyData.canLayAll0 (pyA xs) = true → flatA xs = true
  | [], _ => rfl
  | x :: xs, h => by
    simp only [pyA, PyData.canLayAll0, Bool.and_eq_true] at h
    have h' := h
    simp only [flatA, D.flat_of x h'.1, flatA_of xs h'.2, Bool.and_self]
end
/-- a thing at a: its own object in H, what it holds in R -/
inductive Top (K : PySem.W.Frag) (H R : Hp) (a : Addr) : D → Prop
  | lst {xs : List V} {ds : List D} : H a = some (.lst xs) → RpA K R xs ds → Top K H R a (.lst ds)
  | dK {kvs : List (Key × V)} {kds : List (Key × D)} : H a = some (.dK kvs) → kvs.map (·.1) = kds.map (·.1) → RpA K R (kvs.map (·.2)) (kds.map (·.2)) → Top K H R a (.dK kds)
  | dT {kvs : List (List Key × V)} {kds : List (List Key × D)} : H a = some (.dT kvs) → kvs.map (·.1) = kds.map (·.1) → RpA K R (kvs.map (·.2)) (kds.map (·.2)) → Top K H R a (.dT kds)
  | obj {C dx : Addr} {kvs : List (Str × V)} {kds : List (Str × D)} : H a = some (.ins C dx kvs) → kvs.map (·.1) = kds.map (·.1) → RpA K R (kvs.map (·.2)) (kds.map (·.2)) → ClsK K C → Top K H R a (.obj C kds)
  | slf {C dx : Addr} {kvs : List (Str × V)} {kds : List (Str × D)} : H a = some (.ins C dx kvs) → kvs.map (·.1) = kds.map (·.1) → RpA K R (kvs.map (·.2)) (kds.map (·.2)) → ClsK K C → Top K H R a (.slf a C kds)
theorem Top.mono {K : PySem.W.Frag} {H H' R R' : Hp} {a : Addr} {d : D} (h : Top K H R a d) (ha : ∀ o, H a = some o → H' a = some o) (hr : ∀ b o, R b = some o → R' b = some o) : Top K H' R' a d := by
  cases h with
  | lst e r => exact .lst (ha _ e) (r.mono hr)
  | dK e k r => exact .dK (ha _ e) k (r.mono hr)
  | dT e k r => exact .dT (ha _ e) k (r.mono hr)
  | obj e k r c => exact .obj (ha _ e) k (r.mono hr) c
  | slf e k r c => exact .slf (ha _ e) k (r.mono hr) c
theorem Top.rp {K : PySem.W.Frag} {H : Hp} {a : Addr} {d : D} (h : Top K H H a d) : Rp K H (.ref a) d := by
  cases h with
  | lst e r => exact .lst e r
  | dK e k r => exact .dK (.inl e) k r
  | dT e k r => exact .dT (.inl e) k r
  | obj e k r c => exact .obj e k r c
  | slf e k r c => exact .slf e k r c
theorem Top.some {K : PySem.W.Frag} {H R : Hp} {a : Addr} {d : D} (h : Top K H R a d) : ∃ o, H a = some o := by
  cases h with
  | lst e r => exact ⟨_, e⟩
  | dK e k r => exact ⟨_, e⟩
  | dT e k r => exact ⟨_, e⟩
  | obj e k r c => exact ⟨_, e⟩
  | slf e k r c => exact ⟨_, e⟩
/-! ### the state over data -/
noncomputable def hid (S : Addr → Prop) (H : Hp) : Hp := fun a => open Classical in if S a then none else H a
theorem hid_in {S : Addr → Prop} {H : Hp} {a : Addr} {o : HO} (h : hid S H a = some o) : ¬ S a ∧ H a = some o := by
  unfold hid at h
  split at h
  · cases h
  · exact ⟨by assumption, h⟩
theorem hid_mk {S : Addr → Prop} {H : Hp} {a : Addr} {o : HO} (n : ¬ S a) (h : H a = some o) : hid S H a = some o := by
  unfold hid
  rw [if_neg n]
  exact h
theorem hid_full {S : Addr → Prop} {H : Hp} : ∀ a o, hid S H a = some o → H a = some o := fun _ _ h => (hid_in h).2
theorem hid_mono {S S' : Addr → Prop} {H H' : Hp} (hs : ∀ a, S' a → S a) (hh : ∀ a o, ¬ S a → H a = some o → H' a = some o) : ∀ a o, hid S H a = some o → hid S' H' a = some o := fun a o h => by
  obtain ⟨n, e⟩ := hid_in h
  exact hid_mk (fun q => n (hs a q)) (hh a o n e)

/-- the law's bag of draws -/
def Bag (H : Hp) (b l : Addr) : Prop := ∃ (i0 i1 i2 : Int) (ns : List Int), H b = some (.lst [.int i0, .int i1, .int i2, .ref l]) ∧ l ≠ b ∧ H l = some (.lst (ns.map V.int)) ∧ 0 ≤ i0 ∧ 0 ≤ i1 ∧ i1 < 2147483647 ∧ 0 ≤ i2 ∧ ∀ n ∈ ns, 0 ≤ n
structure Cq where
  K : PySem.W.Frag
  bg : Option Addr
  bl : Addr
  S0 : Addr → Prop
  H0 : Hp
inductive B where
  | dat (d : D) | own (d : D) | bag
abbrev G := List (Option B)
def owns : List (V × B) → List Addr
  | [] => []
  | (.ref a, .own _) :: r => a :: owns r
  | _ :: r => owns r
def sh (C : Cq) (L : List (V × B)) : Addr → Prop := fun a => C.S0 a ∨ a ∈ owns L
def okB (C : Cq) (S : Addr → Prop) (H : Hp) : V × B → Prop
  | (v, .dat d) => Rp C.K (hid S H) v d
  | (v, .own d) => ∃ a, v = .ref a ∧ Top C.K H (hid S H) a d
  | (v, .bag) => ∃ b, C.bg = some b ∧ v = .ref b
structure RelL (C : Cq) (H : Hp) (L : List (V × B)) : Prop where
  ok : ∀ p ∈ L, okB C (sh C L) H p
  own : ∀ a ∈ owns L, ¬ C.S0 a ∧ C.H0 a = none ∧ H a ≠ none
  nd : (owns L).Nodup
  dom : ∀ a, C.S0 a → Thing (H a)
  bag : ∀ b, C.bg = some b → C.S0 b ∧ C.S0 C.bl ∧ Bag H b C.bl
  same : ∀ a o, C.bg ≠ some a → C.H0 a = some o → H a = some o
theorem okB.mono {C : Cq} {S S' : Addr → Prop} {H H' : Hp} {p : V × B} (h : okB C S H p) (hs : ∀ a, S' a → S a) (hh : ∀ a o, ¬ S a → H a = some o → H' a = some o) (ho : ∀ a o, C.bg ≠ some a → (p.1 = .ref a) → (∀ d, p.2 ≠ .dat d) → H a = some o → H' a = some o)
    (hb : ∀ a d, p = (.ref a, .own d) → C.bg ≠ some a) : okB C S' H' p := by
  obtain ⟨v, b⟩ := p
  cases b with
  | dat d => exact Rp.mono (hid_mono hs hh) h
  | own ds =>
    obtain ⟨a, rfl, t⟩ := h
    exact ⟨a, rfl, t.mono (fun o e => ho a _ (hb a ds rfl) rfl (fun _ z => by cases z) e) (hid_mono hs hh)⟩
  | bag => exact h
theorem owns_mem {a : Addr} : ∀ {L : List (V × B)}, a ∈ owns L → ∃ ds, (V.ref a, B.own ds) ∈ L
  | [], h => by cases h
  | (v, b) :: r, h => by
    have tail : a ∈ owns r → ∃ ds, (V.ref a, B.own ds) ∈ (v, b) :: r := fun h => by
      obtain ⟨ds, q⟩ := owns_mem h
      exact ⟨ds, List.mem_cons_of_mem _ q⟩
    cases b with
    | dat d => cases v <;> exact tail h
    | bag => cases v <;> exact tail h
    | own ds =>
      cases v with
      | ref c =>
        rcases List.mem_cons.mp (show a ∈ c :: owns r from h) with q | q
        · subst q
          exact ⟨ds, List.mem_cons_self⟩
        · exact tail q
      | _ => exact tail h
theorem mem_owns {a : Addr} {ds : D} : ∀ {L : List (V × B)}, (V.ref a, B.own ds) ∈ L → a ∈ owns L
  | [], h => by cases h
  | (v, b) :: r, h => by
    rcases List.mem_cons.mp h with q | q
    · cases q
      exact List.mem_cons_self
    · have t := mem_owns q
      cases b <;> cases v <;> first | exact t | exact List.mem_cons_of_mem _ t
/-- fewer things -/
def Sub (L' L : List (V × B)) : Prop := ∃ R, L.Perm (L' ++ R)
theorem owns_perm {L L' : List (V × B)} (h : L.Perm L') : (owns L).Perm (owns L') := by
  induction h with
  | nil => exact .nil
  | cons x _ ih =>
    obtain ⟨v, b⟩ := x
    cases b <;> cases v <;> first | exact ih | exact .cons _ ih
  | swap x y l =>
    obtain ⟨v, b⟩ := x
    obtain ⟨w, c⟩ := y
    cases b <;> cases v <;> cases c <;> cases w <;> first | exact .refl _ | exact .swap _ _ _
  | trans _ _ i1 i2 => exact i1.trans i2
theorem owns_append : ∀ (L R : List (V × B)), owns (L ++ R) = owns L ++ owns R
  | [], R => rfl
  | (v, b) :: r, R => by
    have t := owns_append r R
    cases b <;> cases v <;> first | exact t | exact congrArg (_ :: ·) t
theorem Sub.owns {L' L : List (V × B)} (h : Sub L' L) : ∀ a ∈ owns L', a ∈ owns L := fun a q => by
  obtain ⟨R, p⟩ := h
  refine (owns_perm p).mem_iff.mpr ?_
  rw [owns_append]
  exact List.mem_append_left _ q
theorem RelL.sub {C : Cq} {H : Hp} {L L' : List (V × B)} (r : RelL C H L) (h : Sub L' L) : RelL C H L' := by
  have hm : ∀ p ∈ L', p ∈ L := fun p q => by
    obtain ⟨R, z⟩ := h
    exact z.mem_iff.mpr (List.mem_append_left _ q)
  refine ⟨fun p q => ?_, fun a q => r.own a (h.owns a q), ?_, r.dom, r.bag, r.same⟩
  · refine (r.ok p (hm p q)).mono (fun a z => z.imp_right (h.owns a)) (fun _ _ _ e => e) (fun _ _ _ _ _ e => e) fun a ds e z => ?_
    subst e
    have h1 := r.own a (h.owns a (mem_owns q))
    exact h1.1 (r.bag a z).1
  · obtain ⟨R, z⟩ := h
    have q := (owns_perm z).nodup_iff.mp r.nd
    rw [owns_append] at q
    exact (List.nodup_append.mp q).1
theorem Sub.refl (L : List (V × B)) : Sub L L := ⟨[], by rw [List.append_nil]⟩
theorem Sub.tail {p : V × B} {L : List (V × B)} : Sub L (p :: L) := ⟨[p], (List.perm_append_singleton p L).symm⟩
theorem Sub.trans {A B' C' : List (V × B)} (h : Sub A B') (g : Sub B' C') : Sub A C' := by
  obtain ⟨R, p⟩ := h
  obtain ⟨T, q⟩ := g
  refine ⟨R ++ T, q.trans ?_⟩
  rw [← List.append_assoc]
  exact p.append_right T
theorem Sub.cons {p : V × B} {L' L : List (V × B)} (h : Sub L' L) : Sub (p :: L') (p :: L) := by
  obtain ⟨R, q⟩ := h
  exact ⟨R, q.cons p⟩
theorem Sub.swap {p q : V × B} {L : List (V × B)} : Sub (p :: q :: L) (q :: p :: L) := ⟨[], by rw [List.append_nil]; exact .swap _ _ _⟩
theorem Sub.append {A L' L : List (V × B)} (h : Sub L' L) : Sub (A ++ L') (A ++ L) := by
  obtain ⟨R, q⟩ := h
  exact ⟨R, by rw [List.append_assoc]; exact q.append_left A⟩
theorem Sub.left {A L : List (V × B)} : Sub A (A ++ L) := ⟨L, .refl _⟩
theorem Sub.right {A L : List (V × B)} : Sub L (A ++ L) := ⟨A, List.perm_append_comm⟩
theorem RelL.nown {C : Cq} {H : Hp} {L : List (V × B)} (r : RelL C H L) {a : Addr} (h : a ∈ owns L) : C.bg ≠ some a := fun z => (r.own a h).1 (r.bag a z).1
/-- the heap grows, or the bag turns -/
theorem RelL.step {C : Cq} {H H' : Hp} {L : List (V × B)} (r : RelL C H L) (h : ∀ a o, C.bg ≠ some a → H a = some o → H' a = some o) (hb : ∀ b, C.bg = some b → Bag H' b C.bl) : RelL C H' L := by
  refine ⟨fun p q => ?_, fun a q => ⟨(r.own a q).1, (r.own a q).2.1, ?_⟩, r.nd, fun a q => ?_, fun b e => ⟨(r.bag b e).1, (r.bag b e).2.1, hb b e⟩, fun a o n e => h a o n (r.same a o n e)⟩
  · refine (r.ok p q).mono (fun a z => z) (fun a o n e => h a o (fun z => n (.inl (r.bag a z).1)) e) (fun a o n _ _ e => h a o n e) fun a ds e => ?_
    subst e
    exact r.nown (mem_owns q)
  · have h1 := (r.own a q).2.2
    cases e : H a with
    | none => exact absurd e h1
    | some o =>
      rw [h a o (r.nown q) e]
      exact fun z => by cases z
  · by_cases hz : C.bg = some a
    · obtain ⟨_, _, _, _, e, _⟩ := hb a hz
      rw [e]
      exact True.intro
    · have h1 := r.dom a q
      cases e : H a with
      | none => exact absurd e h1.ne
      | some o =>
        rw [h a o hz e]
        rw [e] at h1
        exact h1
theorem Bag.keep {H H' : Hp} {b l : Addr} (g : Bag H b l) (h : ∀ a o, H a = some o → H' a = some o) : Bag H' b l := by
  obtain ⟨i0, i1, i2, ns, e1, n, e2, r⟩ := g
  exact ⟨i0, i1, i2, ns, h _ _ e1, n, h _ _ e2, r⟩
theorem RelL.grow {C : Cq} {H H' : Hp} {L : List (V × B)} (r : RelL C H L) (h : ∀ a o, H a = some o → H' a = some o) : RelL C H' L :=
  r.step (fun a o _ e => h a o e) fun b e => (r.bag b e).2.2.keep h
theorem upd_keep {H : Hp} {p : Addr} {o : HO} (h : H p = none) : ∀ a u, H a = some u → upd H p o a = some u := fun a u e => by
  rw [upd_ne (ne_of_none e h)]
  exact e
theorem RelL.out {C : Cq} {H : Hp} {L : List (V × B)} (r : RelL C H L) {p : Addr} (h : H p = none) : ¬ sh C L p := fun z => by
  rcases z with z | z
  · exact (r.dom p z).ne h
  · exact (r.own p z).2.2 h
theorem Top.thing {K : PySem.W.Frag} {H R : Hp} {a : Addr} {d : D} (h : Top K H R a d) : Thing (H a) := by
  cases h with
  | lst e r => rw [e]; exact True.intro
  | dK e k r => rw [e]; exact True.intro
  | dT e k r => rw [e]; exact True.intro
  | obj e k r c => rw [e]; exact True.intro
  | slf e k r c => rw [e]; exact True.intro
theorem RelL.thing {C : Cq} {H : Hp} {L : List (V × B)} (r : RelL C H L) {a : Addr} (h : sh C L a) : Thing (H a) := by
  rcases h with h | h
  · exact r.dom a h
  · obtain ⟨d, m⟩ := owns_mem h
    obtain ⟨b, e, t⟩ := r.ok _ m
    cases e
    exact t.thing
theorem owns_dat {v : V} {d : D} {L : List (V × B)} : owns ((v, .dat d) :: L) = owns L := by cases v <;> rfl
theorem owns_bag {v : V} {L : List (V × B)} : owns ((v, .bag) :: L) = owns L := by cases v <;> rfl
theorem sh_dat {C : Cq} {v : V} {d : D} {L : List (V × B)} : sh C ((v, .dat d) :: L) = sh C L := by unfold sh; rw [owns_dat]
theorem RelL.push {C : Cq} {H : Hp} {L : List (V × B)} (r : RelL C H L) {v : V} {d : D} (h : Rp C.K (hid (sh C L) H) v d) : RelL C H ((v, .dat d) :: L) := by
  refine ⟨fun p q => ?_, by rw [owns_dat]; exact r.own, by rw [owns_dat]; exact r.nd, r.dom, r.bag, r.same⟩
  rw [sh_dat]
  rcases List.mem_cons.mp q with q | q
  · subst q
    exact h
  · exact r.ok p q
theorem RelL.top {C : Cq} {H : Hp} {L : List (V × B)} {v : V} {d : D} (r : RelL C H ((v, .dat d) :: L)) : Rp C.K (hid (sh C L) H) v d := by
  have h := r.ok _ List.mem_cons_self
  rw [sh_dat] at h
  exact h
theorem RelL.top1 {C : Cq} {H : Hp} {L : List (V × B)} {v : V} {d : D} (r : RelL C H ((v, .dat d) :: L)) : Rp C.K H v d := r.top.mono hid_full
theorem RelL.rest {C : Cq} {H : Hp} {L : List (V × B)} {p : V × B} (r : RelL C H (p :: L)) : RelL C H L := r.sub Sub.tail
theorem RelL.rep {C : Cq} {H : Hp} {L : List (V × B)} (r : RelL C H L) {v : V} {d : D} (h : (v, B.dat d) ∈ L) : Rp C.K (hid (sh C L) H) v d := r.ok _ h
end DL

namespace DL
open PySem PySem.Spec PyProof.Rows L2
/-! ### slots -/
def pairs : L2.St → G → List (V × B)
  | some v :: σ, some b :: Γ => (v, b) :: pairs σ Γ
  | some _ :: σ, none :: Γ => pairs σ Γ
  | none :: σ, _ :: Γ => pairs σ Γ
  | _, _ => []
structure RS (C : Cq) (σ : L2.St) (H : Hp) (Γ : G) (Ts : List (V × B)) : Prop where
  rel : RelL C H (Ts ++ pairs σ Γ)
  len : Γ.length = σ.length
  cov : ∀ (i : Nat) (b : B), Γ[i]? = some (some b) → ∃ v : V, σ[i]? = some (some v)
theorem pairs_mem : ∀ {σ : L2.St} {Γ : G} {i : Nat} {v : V} {b : B}, σ[i]? = some (some v) → Γ[i]? = some (some b) → (v, b) ∈ pairs σ Γ
  | x :: σ, y :: Γ, 0, v, b, h1, h2 => by
    obtain rfl : x = some v := Option.some.inj h1
    obtain rfl : y = some b := Option.some.inj h2
    exact List.mem_cons_self
  | x :: σ, y :: Γ, i + 1, v, b, h1, h2 => by
    have t := pairs_mem (σ := σ) (Γ := Γ) (i := i) (v := v) (b := b) h1 h2
    cases x <;> cases y <;> first | exact t | exact List.mem_cons_of_mem _ t
  | [], _, i, v, b, h1, _ => by simp at h1
  | _ :: _, [], i, v, b, _, h2 => by simp at h2
theorem pairs_set : ∀ {σ : L2.St} {Γ : G} {i : Nat} {v : V} {b : B}, Sub (pairs (σ.set i (some v)) (Γ.set i (some b))) ((v, b) :: pairs σ Γ)
  | x :: σ, y :: Γ, 0, v, b => by
    show Sub ((v, b) :: pairs σ Γ) ((v, b) :: pairs (x :: σ) (y :: Γ))
    refine Sub.cons ?_
    cases x <;> cases y <;> first | exact Sub.refl _ | exact Sub.tail
  | x :: σ, y :: Γ, i + 1, v, b => by
    have t := pairs_set (σ := σ) (Γ := Γ) (i := i) (v := v) (b := b)
    cases x with
    | none => cases y <;> exact t
    | some x =>
      cases y with
      | none => exact t
      | some y => exact (Sub.cons (p := (x, y)) t).trans Sub.swap
  | [], Γ, i, v, b => ⟨[(v, b)], by simp [pairs]⟩
  | x :: σ, [], i, v, b => by
    have e : pairs ((x :: σ).set i (some v)) (([] : G).set i (some b)) = [] := by
      cases i <;> cases x <;> simp [pairs, List.set]
    rw [e]
    exact ⟨_, .refl _⟩
theorem pairs_forget : ∀ {σ : L2.St} {Γ : G} {i : Nat} {z : Option V}, Sub (pairs (σ.set i z) (Γ.set i none)) (pairs σ Γ)
  | x :: σ, y :: Γ, 0, z => by
    have h : Sub (pairs σ Γ) (pairs (x :: σ) (y :: Γ)) := by cases x <;> cases y <;> first | exact Sub.refl _ | exact Sub.tail
    cases z <;> exact h
  | x :: σ, y :: Γ, i + 1, z => by
    have t := pairs_forget (σ := σ) (Γ := Γ) (i := i) (z := z)
    cases x with
    | none => cases y <;> exact t
    | some x =>
      cases y with
      | none => exact t
      | some y => exact Sub.cons (p := (x, y)) t
  | [], Γ, i, z => ⟨[], by simp [pairs]⟩
  | x :: σ, [], i, z => by
    have e : pairs ((x :: σ).set i z) (([] : G).set i none) = [] := by
      cases i <;> cases x <;> cases z <;> simp [pairs, List.set]
    rw [e]
    exact ⟨_, .refl _⟩
section
variable {C : Cq} {σ : L2.St} {H H' : Hp} {Γ : G} {Ts : List (V × B)}
theorem RS.get (r : RS C σ H Γ Ts) {i : Nat} {b : B} (h : Γ[i]? = some (some b)) : ∃ v : V, σ[i]? = some (some v) ∧ (v, b) ∈ Ts ++ pairs σ Γ := by
  obtain ⟨v, e⟩ := r.cov i b h
  exact ⟨v, e, List.mem_append_right _ (pairs_mem e h)⟩
theorem RS.drop {p : V × B} (r : RS C σ H Γ (p :: Ts)) : RS C σ H Γ Ts := ⟨r.rel.rest, r.len, r.cov⟩
theorem RS.push (r : RS C σ H Γ Ts) {v : V} {d : D} (h : Rp C.K (hid (sh C (Ts ++ pairs σ Γ)) H) v d) : RS C σ H Γ ((v, .dat d) :: Ts) := ⟨r.rel.push h, r.len, r.cov⟩
theorem RS.grow (r : RS C σ H Γ Ts) (h : ∀ a o, H a = some o → H' a = some o) : RS C σ H' Γ Ts := ⟨r.rel.grow h, r.len, r.cov⟩
theorem RS.step (r : RS C σ H Γ Ts) (h : ∀ a o, C.bg ≠ some a → H a = some o → H' a = some o) (hb : ∀ b, C.bg = some b → Bag H' b C.bl) : RS C σ H' Γ Ts := ⟨r.rel.step h hb, r.len, r.cov⟩
theorem RS.sub {Ts' : List (V × B)} (r : RS C σ H Γ Ts) (h : Sub Ts' Ts) : RS C σ H Γ Ts' := by
  refine ⟨r.rel.sub ?_, r.len, r.cov⟩
  obtain ⟨R, p⟩ := h
  refine ⟨R, (p.append_right _).trans ?_⟩
  rw [List.append_assoc, List.append_assoc]
  exact List.Perm.append_left _ List.perm_append_comm
theorem RS.top {v : V} {d : D} (r : RS C σ H Γ ((v, .dat d) :: Ts)) : Rp C.K (hid (sh C (Ts ++ pairs σ Γ)) H) v d := r.rel.top
theorem RS.top1 {v : V} {d : D} (r : RS C σ H Γ ((v, .dat d) :: Ts)) : Rp C.K H v d := r.rel.top1
theorem RS.bl (r : RS C σ H Γ Ts) (b : Bool) : RS C σ H Γ ((.bl b, .dat (.bl b)) :: Ts) := r.push (.bl b)
theorem RS.int (r : RS C σ H Γ Ts) (i : Int) : RS C σ H Γ ((.int i, .dat (.int i)) :: Ts) := r.push (.int i)
theorem RS.str (r : RS C σ H Γ Ts) (x : Str) : RS C σ H Γ ((.str x, .dat (.str x)) :: Ts) := r.push (.str x)
theorem RS.non (r : RS C σ H Γ Ts) : RS C σ H Γ ((.non, .dat .non) :: Ts) := r.push .non
/-- a new tuple or list of things that stand -/
theorem RS.out (r : RS C σ H Γ Ts) {p : Addr} (h : H p = none) : ¬ sh C (Ts ++ pairs σ Γ) p := r.rel.out h
theorem RS.newT (r : RS C σ H Γ Ts) {p : Addr} (h : H p = none) {xs : List V} {ds : List D} (k : RpA C.K (hid (sh C (Ts ++ pairs σ Γ)) H) xs ds) : RS C σ (upd H p (.tup xs)) Γ ((.ref p, .dat (.tup ds)) :: Ts) :=
  (r.grow (upd_keep h)).push (.tup (hid_mk (r.out h) upd_same) (k.mono (hid_mono (fun _ z => z) fun a o _ e => upd_keep h a o e)))
theorem RS.newL (r : RS C σ H Γ Ts) {p : Addr} (h : H p = none) {xs : List V} {ds : List D} (k : RpA C.K (hid (sh C (Ts ++ pairs σ Γ)) H) xs ds) : RS C σ (upd H p (.lst xs)) Γ ((.ref p, .dat (.lst ds)) :: Ts) :=
  (r.grow (upd_keep h)).push (.lst (hid_mk (r.out h) upd_same) (k.mono (hid_mono (fun _ z => z) fun a o _ e => upd_keep h a o e)))
end
/-- the values of an argument list -/
def datZ : List V → List D → List (V × B)
  | v :: vs, d :: ds => datZ vs ds ++ [(v, .dat d)]
  | _, _ => []
/-! ### the judgements -/
abbrev DE := G → (D → Prop) → Prop
abbrev DT := G → (Bool → Prop) → Prop
abbrev DA := G → (List D → Prop) → Prop
def Ans (C : Cq) (σ : L2.St) (Γ : G) (Ts : List (V × B)) (k : D → Prop) (Q : VK) : Prop := ∀ v H' d, k d → RS C σ H' Γ ((v, .dat d) :: Ts) → Q v H'
def liftE (C : Cq) (t : DE) : TE := fun σ H Q => ∃ Γ Ts k, RS C σ H Γ Ts ∧ t Γ k ∧ Ans C σ Γ Ts k Q
def liftT (C : Cq) (t : DT) : TT := fun σ H Q => ∃ Γ Ts k, RS C σ H Γ Ts ∧ t Γ k ∧ ∀ b H', k b → RS C σ H' Γ Ts → Q b H'
/-- all values stand, the first ones lowest -/
def AllIn (C : Cq) (σ : L2.St) (H : Hp) (Γ : G) (Ts : List (V × B)) (vs : List V) (ds : List D) : Prop := RS C σ H Γ Ts ∧ RpA C.K (hid (sh C (Ts ++ pairs σ Γ)) H) vs ds
def liftA (C : Cq) (t : DA) : TA := fun σ H Q => ∃ Γ Ts k, RS C σ H Γ Ts ∧ t Γ k ∧ ∀ vs H' ds, k ds → AllIn C σ H' Γ Ts vs ds → Q vs H'
structure ED (C : Cq) (X : Cx) (e : Expr) (t : DE) : Prop where
  pe : PE X e (liftE C t)
structure TD (C : Cq) (X : Cx) (e : Expr) (t : DT) : Prop where
  pt : PT X e (liftT C t)
structure AD (C : Cq) (X : Cx) (es : List Expr) (t : DA) : Prop where
  pa : PA X es (liftA C t)
theorem _root_.L2.PE.weak {X : Cx} {e : Expr} {t t' : TE} (h : PE X e t) (w : ∀ σ H Q, t' σ H Q → t σ H Q) : PE X e t' := ⟨fun pins s σ H Q I q => h.run pins s σ H Q I (w σ H Q q)⟩
theorem _root_.L2.PT.weak {X : Cx} {e : Expr} {t t' : TT} (h : PT X e t) (w : ∀ σ H Q, t' σ H Q → t σ H Q) : PT X e t' := ⟨fun pins s σ H Q I q => h.run pins s σ H Q I (w σ H Q q)⟩
theorem _root_.L2.PA.weak {X : Cx} {e : List Expr} {t t' : TA} (h : PA X e t) (w : ∀ σ H Q, t' σ H Q → t σ H Q) : PA X e t' := ⟨fun pos pins s σ H Q I q => h.run pos pins s σ H Q I (w σ H Q q)⟩
theorem _root_.L2.PS.weak {X : Cx} {e : Stmt} {t t' : TS} (h : PS X e t) (w : ∀ D σ H, t' D σ H → t D σ H) : PS X e t' := ⟨fun pins s σ H D I q => h.run pins s σ H D I (w D σ H q)⟩
theorem _root_.L2.PSs.weak {X : Cx} {e : List Stmt} {t t' : TS} (h : PSs X e t) (w : ∀ D σ H, t' D σ H → t D σ H) : PSs X e t' := ⟨fun pins s σ H D I q => h.run pins s σ H D I (w D σ H q)⟩
section
variable {C : Cq} {X : Cx}
/-! ### names, constants -/
def dV (i : Nat) : DE := fun Γ k => ∃ d, Γ[i]? = some (some (.dat d)) ∧ k d
theorem ed_v (i : Nat) {x : Str} {pos : Pos} (hN : X.N[i]? = some x := by rfl) (hv : Vis X.env.scope x := by first | exact Or.inl rfl | exact Or.inr (Or.inl rfl) | exact Or.inr (Or.inr rfl)) (hd : (x == ("__debug__" : Str)) = false := by decide)
    (hcd : (x == ("__classdict__" : Str)) = false := by decide) : ED C X (.Name x pos) (dV i) := ⟨(pe_var hN hv hd hcd).weak fun σ H Q ⟨Γ, Ts, k, r, ⟨d, e, hk⟩, ans⟩ => by
  obtain ⟨v, e1, m⟩ := r.get e
  exact ⟨v, e1, ans v H d hk (r.push (r.rel.ok _ m))⟩⟩
def dC (d : D) : DE := fun _ k => k d
theorem ed_int {i j pos} : ED C X (.Constant (.int i) j pos) (dC (.int i)) := ⟨pe_int.weak fun σ H Q ⟨Γ, Ts, k, r, hk, ans⟩ => ans _ H _ hk (r.int i)⟩
theorem ed_bl {i j pos} : ED C X (.Constant (.bool i) j pos) (dC (.bl i)) := ⟨pe_bl.weak fun σ H Q ⟨Γ, Ts, k, r, hk, ans⟩ => ans _ H _ hk (r.bl i)⟩
theorem ed_str {i j pos} : ED C X (.Constant (.str i) j pos) (dC (.str i)) := ⟨pe_str.weak fun σ H Q ⟨Γ, Ts, k, r, hk, ans⟩ => ans _ H _ hk (r.str i)⟩
theorem ed_non {j pos} : ED C X (.Constant .none j pos) (dC .non) := ⟨pe_non.weak fun σ H Q ⟨Γ, Ts, k, r, hk, ans⟩ => ans _ H _ hk r.non⟩
/-! ### argument lists, displays -/
def dNil : DA := fun _ k => k []
def dCons (a : DE) (t : DA) : DA := fun Γ k => a Γ fun d => t Γ fun ds => k (d :: ds)
theorem ad_nil : AD C X [] dNil := ⟨pa_nil.weak fun σ H Q ⟨Γ, Ts, k, r, hk, ans⟩ => ans [] H [] hk ⟨r, .nil⟩⟩
theorem ad_cons {e : Expr} {es : List Expr} {a : DE} {t : DA} (ha : ED C X e a) (ht : AD C X es t) (hs : starEach (e :: es) X.env = (false, eval e X.env) :: starEach es X.env := by rfl) : AD C X (e :: es) (dCons a t) :=
  ⟨(pa_cons ha.pe ht.pa hs).weak fun σ H Q ⟨Γ, Ts, k, r, hk, ans⟩ => ⟨Γ, Ts, _, r, hk, fun v H1 d hk1 r1 => ⟨Γ, _, _, r1, hk1, fun vs H2 ds hk2 ⟨r2, q⟩ => ans (v :: vs) H2 (d :: ds) hk2 ⟨r2.drop, .cons r2.top (by
    have e : sh C ((v, B.dat d) :: Ts ++ pairs σ Γ) = sh C (Ts ++ pairs σ Γ) := sh_dat
    rw [e] at q
    exact q)⟩⟩⟩⟩
def dTup (t : DA) : DE := fun Γ k => t Γ fun ds => ds.length ≤ 1000 ∧ k (.tup ds)
def dLst (t : DA) : DE := fun Γ k => t Γ fun ds => ds.length ≤ 1000 ∧ k (.lst ds)
theorem small {n : Nat} (h : n ≤ 1000) : n ≤ sizeLine := Nat.le_of_lt (small1000 h)
theorem ed_tup {es : List Expr} {t : DA} {x1 pos} (h : AD C X es t) : ED C X (.Tuple es x1 pos) (dTup t) :=
  ⟨(pe_tup h.pa).weak fun σ H Q ⟨Γ, Ts, k, r, hk, ans⟩ => ⟨Γ, Ts, _, r, hk, fun vs H1 ds ⟨hl, hk1⟩ ⟨r1, q⟩ => ⟨by rw [q.length]; exact small hl, fun p hp => ans _ _ _ hk1 (r1.newT hp q)⟩⟩⟩
theorem ed_lst {es : List Expr} {t : DA} {pos} (h : AD C X es t) : ED C X (.List es pos) (dLst t) :=
  ⟨(pe_lst h.pa).weak fun σ H Q ⟨Γ, Ts, k, r, hk, ans⟩ => ⟨Γ, Ts, _, r, hk, fun vs H1 ds ⟨hl, hk1⟩ ⟨r1, q⟩ => ⟨by rw [q.length]; exact small hl, fun p hp => ans _ _ _ hk1 (r1.newL hp q)⟩⟩⟩
/-! ### two operands -/
abbrev F2 := D → D → (D → Prop) → Prop
def d2 (f : F2) (a b : DE) : DE := fun Γ k => a Γ fun x => b Γ fun y => f x y k
def Op2 (C : Cq) (r : R2) (f : F2) : Prop := ∀ (σ : L2.St) (H : Hp) (Γ : G) (Ts : List (V × B)) (x y : V) (d e : D) (k : D → Prop) (Q : VK), RS C σ H Γ ((y, .dat e) :: (x, .dat d) :: Ts) → f d e k → Ans C σ Γ Ts k Q → r x y H Q
theorem op2_go {r : R2} {f : F2} (o : Op2 C r f) {a b : DE} : ∀ σ H Q, liftE C (d2 f a b) σ H Q → tOp r (liftE C a) (liftE C b) σ H Q := fun σ H Q ⟨Γ, Ts, k, s, hk, ans⟩ =>
  ⟨Γ, Ts, _, s, hk, fun v H1 d hk1 r1 => ⟨Γ, _, _, r1, hk1, fun w H2 e hk2 r2 => o σ H2 Γ Ts v w d e k Q r2 hk2 ans⟩⟩
theorem ed_op {op : Operator} {r : R2} {f : F2} {x y : Expr} {a b : DE} {pos : Pos} (ho : OpR X (binaryOp op) r) (o : Op2 C r f) (ha : ED C X x a) (hb : ED C X y b) : ED C X (.BinOp x op y pos) (d2 f a b) :=
  ⟨(pe_op ho ha.pe hb.pe).weak (op2_go o)⟩
theorem ed_cmp {op : CmpOp} {r : R2} {f : F2} {x y : Expr} {a b : DE} {pos : Pos} (ho : OpR X (compareOp op) r) (o : Op2 C r f) (ha : ED C X x a) (hb : ED C X y b) (hm : behindInMarks op y = false) : ED C X (.Compare x [op] [y] pos) (d2 f a b) :=
  ⟨(pe_cmpR ho ha.pe hb.pe hm).weak (op2_go o)⟩
/-- a test by a value that is a bool -/
def dTest (a : DE) : DT := fun Γ k => a Γ fun d => ∃ b, d = .bl b ∧ k b
theorem td_cmp {op : CmpOp} {r : R2} {f : F2} {x y : Expr} {a b : DE} {pos : Pos} (ho : OpR X (compareOp op) r) (o : Op2 C r f) (ha : ED C X x a) (hb : ED C X y b) (hm : behindInMarks op y = false) : TD C X (.Compare x [op] [y] pos) (dTest (d2 f a b)) :=
  ⟨(pt_cmpR ho ha.pe hb.pe hm).weak fun σ H Q ⟨Γ, Ts, k, s, hk, ans⟩ => op2_go o σ H _ ⟨Γ, Ts, _, s, hk, fun v H1 d ⟨b, e, hk1⟩ r1 => by
    subst e
    cases r1.top1
    exact ⟨b, rfl, ans b H1 hk1 r1.drop⟩⟩⟩
/-- ints -/
def fI (g : Int → Int → D) : F2 := fun x y k => ∃ i j, x = .int i ∧ y = .int j ∧ k (g i j)
def fIc (c : Int → Int → Prop) (g : Int → Int → D) : F2 := fun x y k => ∃ i j, x = .int i ∧ y = .int j ∧ c i j ∧ k (g i j)
theorem o2_int {g : Int → Int → Int} : Op2 C (rI0 fun i j => .int (g i j)) (fI fun i j => .int (g i j)) := fun σ H Γ Ts x y d e k Q r h ans => by
  obtain ⟨i, j, rfl, rfl, hk⟩ := h
  cases r.top1
  cases r.drop.top1
  exact ⟨i, j, rfl, rfl, ans _ _ _ hk (r.drop.drop.int _)⟩
theorem o2_intC {c : Int → Int → Prop} {g : Int → Int → Int} : Op2 C (rI c fun i j => .int (g i j)) (fIc c fun i j => .int (g i j)) := fun σ H Γ Ts x y d e k Q r h ans => by
  obtain ⟨i, j, rfl, rfl, hc, hk⟩ := h
  cases r.top1
  cases r.drop.top1
  exact ⟨i, j, rfl, rfl, hc, ans _ _ _ hk (r.drop.drop.int _)⟩
theorem o2_blI {g : Int → Int → Bool} : Op2 C (rI0 fun i j => .bl (g i j)) (fI fun i j => .bl (g i j)) := fun σ H Γ Ts x y d e k Q r h ans => by
  obtain ⟨i, j, rfl, rfl, hk⟩ := h
  cases r.top1
  cases r.drop.top1
  exact ⟨i, j, rfl, rfl, ans _ _ _ hk (r.drop.drop.bl _)⟩
/-- data of any depth that may be compared -/
def Cmp (d : D) : Prop := SeqAt.shaped d.py = true
theorem Cmp.flat {d : D} (h : Cmp d) : d.flat = true := D.flat_of d (by
  unfold Cmp SeqAt.shaped at h
  rw [Bool.and_eq_true] at h
  exact h.1)
def fEq : F2 := fun x y k => Cmp x ∧ Cmp y ∧ k (.bl (PyData.eqv x.py y.py))
def fNe : F2 := fun x y k => Cmp x ∧ Cmp y ∧ k (.bl (!PyData.eqv x.py y.py))
theorem o2_eq : Op2 C (rEqD C.K) fEq := fun σ H Γ Ts x y d e k Q r ⟨h1, h2, hk⟩ ans => ⟨d.py, e.py, r.drop.top1.dp h1.flat, r.top1.dp h2.flat, h1, h2, ans _ _ _ hk (r.drop.drop.bl _)⟩
theorem o2_ne : Op2 C (rNeD C.K) fNe := fun σ H Γ Ts x y d e k Q r ⟨h1, h2, hk⟩ ans => ⟨d.py, e.py, r.drop.top1.dp h1.flat, r.top1.dp h2.flat, h1, h2, ans _ _ _ hk (r.drop.drop.bl _)⟩
/-- x in xs, a list -/
def fIn : F2 := fun x y k => ∃ ds, y = .lst ds ∧ Cmp x ∧ Cmp y ∧ k (.bl (ds.any fun z => PyData.eqv z.py x.py))
theorem pyA_any (f : PyData → Bool) : ∀ ds : List D, (pyA ds).any f = ds.any fun z => f z.py
  | [] => by unfold pyA; rfl
  | d :: r => by unfold pyA; rw [List.any_cons, List.any_cons, pyA_any f r]
theorem pyA_map : ∀ ds : List D, pyA ds = ds.map D.py
  | [] => by unfold pyA; rfl
  | d :: r => by unfold pyA; rw [List.map_cons, pyA_map r]
theorem o2_in : Op2 C (rInD C.K) fIn := fun σ H Γ Ts x y d e k Q r ⟨ds, h0, h1, h2, hk⟩ ans => by
  subst h0
  have q := r.top1.dp h2.flat
  unfold D.py at q
  unfold Cmp D.py at h2
  refine ⟨d.py, pyA ds, r.drop.top1.dp h1.flat, q, h1, h2, ?_⟩
  rw [pyA_any]
  exact ans _ _ _ hk (r.drop.drop.bl _)
/-- is None -/
def D.isN : D → Bool
  | .non => true
  | _ => false
def fIs : F2 := fun x y k => y = .non ∧ k (.bl x.isN)
def fIsNot : F2 := fun x y k => y = .non ∧ k (.bl (!x.isN))
theorem isN_of {K : PySem.W.Frag} {H : Hp} {v : V} {d : D} (r : Rp K H v d) : decide (v = V.non) = d.isN := by cases r <;> rfl
theorem o2_is : Op2 C (fun x y H Q => y = .non ∧ Q (.bl (decide (x = .non))) H) fIs := fun σ H Γ Ts x y d e k Q r ⟨h1, hk⟩ ans => by
  subst h1
  cases r.top1
  refine ⟨rfl, ?_⟩
  rw [isN_of r.drop.top1]
  exact ans _ _ _ hk (r.drop.drop.bl _)
theorem o2_isNot : Op2 C (fun x y H Q => y = .non ∧ Q (.bl (!decide (x = .non))) H) fIsNot := fun σ H Γ Ts x y d e k Q r ⟨h1, hk⟩ ans => by
  subst h1
  cases r.top1
  refine ⟨rfl, ?_⟩
  rw [isN_of r.drop.top1]
  exact ans _ _ _ hk (r.drop.drop.bl _)
/-! ### and, or, not, if-else -/
def dAnd (a b : DE) : DE := fun Γ k => a Γ fun d => ∃ c, d = .bl c ∧ if c = true then b Γ k else k (.bl false)
def dOr (a b : DE) : DE := fun Γ k => a Γ fun d => ∃ c, d = .bl c ∧ if c = true then k (.bl true) else b Γ k
def dNot (a : DE) : DE := fun Γ k => a Γ fun d => ∃ c, d = .bl c ∧ k (.bl (!c))
theorem ed_one {op} {e : Expr} {t : DE} {pos} (h : ED C X e t) : ED C X (.BoolOp op [e] pos) t := ⟨pe_one h.pe⟩
theorem ed_and {x y : Expr} {rest : List Expr} {pos} {a b : DE} (ha : ED C X x a) (hb : ED C X (.BoolOp .And (y :: rest) pos) b) : ED C X (.BoolOp .And (x :: y :: rest) pos) (dAnd a b) :=
  ⟨(pe_and ha.pe hb.pe).weak fun σ H Q ⟨Γ, Ts, k, r, hk, ans⟩ => ⟨Γ, Ts, _, r, hk, fun v H1 d ⟨c, e, h⟩ r1 => by
    subst e
    cases r1.top1
    refine ⟨c, rfl, ?_⟩
    cases c with
    | true => exact ⟨Γ, Ts, k, r1.drop, h, ans⟩
    | false => exact ans _ _ _ h (r1.drop.bl _)⟩⟩
theorem ed_or {x y : Expr} {rest : List Expr} {pos} {a b : DE} (ha : ED C X x a) (hb : ED C X (.BoolOp .Or (y :: rest) pos) b) : ED C X (.BoolOp .Or (x :: y :: rest) pos) (dOr a b) :=
  ⟨(pe_or ha.pe hb.pe).weak fun σ H Q ⟨Γ, Ts, k, r, hk, ans⟩ => ⟨Γ, Ts, _, r, hk, fun v H1 d ⟨c, e, h⟩ r1 => by
    subst e
    cases r1.top1
    refine ⟨c, rfl, ?_⟩
    cases c with
    | false => exact ⟨Γ, Ts, k, r1.drop, h, ans⟩
    | true => exact ans _ _ _ h (r1.drop.bl _)⟩⟩
theorem ed_not {x : Expr} {pos} {a : DE} (ha : ED C X x a) : ED C X (.UnaryOp .Not x pos) (dNot a) :=
  ⟨(pe_not ha.pe).weak fun σ H Q ⟨Γ, Ts, k, r, hk, ans⟩ => ⟨Γ, Ts, _, r, hk, fun v H1 d ⟨c, e, h⟩ r1 => by
    subst e
    cases r1.top1
    exact ⟨c, rfl, ans _ _ _ h (r1.drop.bl _)⟩⟩⟩
def dIf (t : DT) (a b : DE) : DE := fun Γ k => t Γ fun c => if c = true then a Γ k else b Γ k
theorem ed_if {c x y : Expr} {pos} {t : DT} {a b : DE} (hc : TD C X c t) (ha : ED C X x a) (hb : ED C X y b) : ED C X (.IfExp c x y pos) (dIf t a b) :=
  ⟨(pe_ifExp hc.pt ha.pe hb.pe).weak fun σ H Q ⟨Γ, Ts, k, r, hk, ans⟩ => ⟨Γ, Ts, _, r, hk, fun c H1 h r1 => by
    cases c with
    | true => exact ⟨Γ, Ts, k, r1, h, ans⟩
    | false => exact ⟨Γ, Ts, k, r1, h, ans⟩⟩⟩
end
end DL

namespace DL
open PySem PySem.Spec PyProof.Rows L2
/-! ### defs: as FnOk, where no repr is under way -/
def Still (base : Heap) (A : Around) : Prop := A.guards = some [] ∧ ∃ o, base.get? sysModules = some o
theorem Still.deeper {base : Heap} {A : Around} {env : Env} (h : Still base A) : Still base (A.deeper env) := h
structure FnG (P : Program) (w : World) (K : PySem.W.Frag) (mg : Str → Option Value) (base : Heap) (CX : CXT) (k : Nat) (f : Addr) (fd : FuncData) (ps : List Str) (sp : Sp) : Prop where
  len : ∀ vs H Q E, sp vs H Q E → vs.length = ps.length
  run : ∀ (A : Around) (fr : List Env) (s : Shared) (H : Hp) (args : Args) (us : List Value) (vs : List V) (Q : VK) (E : XK), Still base A → Room k A → Env0 P w K mg base A fr s H →
    BindsTo s fd args (ps.zip us) → Vals vs us → sp vs H Q E → codeAny (model P w) A (.call (.ref f) args) (CR CX fr P w H s Q E) s
section
variable {P : Program} {w : World} {K : PySem.W.Frag} {mg : Str → Option Value} {base : Heap} {CX : CXT} {j k : Nat} {f : Addr} {fd : FuncData} {ps : List Str} {sp sp' : Sp}
theorem FnG.of (F : FnOk P w K mg base CX k f fd ps sp) : FnG P w K mg base CX k f fd ps sp := ⟨F.len, fun A fr s H args us vs Q E _ => F.run A fr s H args us vs Q E⟩
theorem FnG.mono (F : FnG P w K mg base CX j f fd ps sp) (h : j ≤ k) : FnG P w K mg base CX k f fd ps sp :=
  ⟨F.len, fun A fr s H args us vs Q E hs hr => F.run A fr s H args us vs Q E hs (hr.mono h)⟩
theorem FnG.imp (F : FnG P w K mg base CX k f fd ps sp) (h : ∀ vs H Q E, sp' vs H Q E → sp vs H Q E) : FnG P w K mg base CX k f fd ps sp' :=
  ⟨fun vs H Q E q => F.len vs H Q E (h _ _ _ _ q), fun A fr s H args us vs Q E hs hr he hb hv q => F.run A fr s H args us vs Q E hs hr he hb hv (h _ _ _ _ q)⟩
/-- a def's promise from its body -/
theorem fnG_of {x qual : Str} {st : Stmt} {N : List Str} (F : Fun K x qual st f fd) (S : FnScope N ps (defScope st)) (len : ∀ vs H Q E, sp vs H Q E → vs.length = ps.length)
    (hbody : ∀ (cdv : Value) (A : Around) (fr : List Env) (s : Shared) (H : Hp) (vs : List V) (Q : VK) (E : XK), Still base (A.deeper (envOfC qual (defScope st) s.heap.objs.size f cdv)) → Room k (A.deeper (envOfC qual (defScope st) s.heap.objs.size f cdv)) → sp vs H Q E →
      ∃ t, PSs (cxOf CX P w K mg base N qual (defScope st) f cdv A fr s H E) (defBody st) t ∧ t { nx := fun _ H' => Q .non H', rt := Q } (start N vs) H) : FnG P w K mg base CX (k + 1) f fd ps sp := by
  obtain ⟨oc, od, kV, doc, pm, an, cdv, ct, osl, rfl, lk, hcd⟩ := F.ex
  refine ⟨len, ?_⟩
  intro A fr s H args us vs Q E hs hr e0 hb rv hsp
  have stay := fun b o (e : base.get? b = some o) => (e0.bs b o e).1
  have inK : K.In s.heap := e0.mod.kin.keeps stay
  have hnl : s.heap.NoLimit := e0.mod.nolimit.keeps stay
  refine codeAny_call_function hr.depth (inK _ _ lk) rfl S.co S.gen rfl (PySem.W.codeRec_of inK hcd) (hb _ _ _ _ ?_)
  refine wpAny_newFunctionEnv_cells S.kind ?kinds fun env he s1 inC => ?body
  case kinds =>
    rintro ⟨n, v⟩ hy
    exact (S.par n (List.of_mem_zip hy).1).imp id fun q => ⟨q, PySem.W.cellsFrom_some _ _ _ (.inl q)⟩
  case body =>
    subst he
    refine ⟨hnl.keeps inC.toInCall.keep, codeAny_func ?_⟩
    obtain ⟨t, ht, hq⟩ := hbody cdv A fr s H vs Q E hs.deeper (hr.deeper _) hsp
    have I := inv_start (CX := CX) (E := E) S hr.hd e0 (len _ _ _ _ hsp) rv inC
    refine wpAny_mono (ht.run [] s1 (start N vs) H _ I hq) ?_ fun _ _ z => z
    intro fl s' z
    cases fl with
    | next =>
      obtain ⟨_, H', J, q⟩ := z
      exact ⟨V.non, H', J.os, J.bare, J.base, J.hok, rfl, q⟩
    | ret u =>
      obtain ⟨v, _, H', J, r', q⟩ := z
      exact ⟨v, H', J.os, J.bare, J.base, J.hok, r', q⟩
    | brk =>
      obtain ⟨_, _, _, q⟩ := z
      exact q.elim
    | cont =>
      obtain ⟨_, _, _, q⟩ := z
      exact q.elim
end
section
variable {X : Cx} {CX : CXT} {k : Nat} {f : Addr} {fd : FuncData} {ps : List Str} {sp : Sp} {E : XK} {dvs : List V} {ds : List Value}
/-- a call of it -/
theorem runG {pins : List (Addr × Obj)} {σ : L2.St} {H : Hp} {s : Shared} {Q : VK} {us : List Value} {vs : List V} (F : FnG X.prog X.w X.K X.mg X.base CX k f fd ps sp) (hst : Still X.base X.A) (hr : Room k X.A) (hb : Binds X.K fd ps ds) (hd : Vals dvs ds)
    (hx : Passes CX X E) (I : Inv X pins σ H s) (r : Vals vs us) (h : sp (vs ++ dvs) H Q E) : wpAny (model X.prog X.w) X.A (call (.ref f) us) (EP X pins σ Q) X.xe s := by
  have rr := r.append hd
  have hl : (us ++ ds).length = ps.length := by rw [← rr.length, F.len _ _ _ _ h]
  refine wpAny_call (codeAny_mono (F.run X.A X.stack s H ⟨us, []⟩ (us ++ ds) (vs ++ dvs) Q E hst hr I.env0 (hb s us I.kIn hl) rr h) ?_)
  intro res s' z
  rcases res with e | fl
  · exact hx pins σ H s e s' I z
  · cases fl with
    | ret u => exact I.after z
    | _ => exact False.elim z
theorem pe_callG {x : Str} {p pos : Pos} {e : Expr} {es : List Expr} {t : TA} (F : FnG X.prog X.w X.K X.mg X.base CX k f fd ps sp) (hst : Still X.base X.A) (hr : Room k X.A) (hg : Gl X x) (hm : X.mg x = some (.ref f)) (hk : PySem.W.keepIn X.K (.ref f) = true)
    (hb : Binds X.K fd ps ds) (hd : Vals dvs ds) (hx : Passes CX X E) (ha : PA X (e :: es) t) (hdb : (x == ("__debug__" : Str)) = false := by decide)
    (he : starEach (e :: es) X.env = (false, eval e X.env) :: starEach es X.env := by rfl) (hpl : (backTo pos (starEach es X.env)).any (·.1) = false := by rfl) : PE X (.Call (.Name x p) (e :: es) [] pos) (tCall sp dvs E t) := ⟨fun pins s σ H Q I h =>
  wpAny_Call_Name_kw (ld_glob I hg hm (PySem.W.callWith_K (h₀ := X.base) I.ok.mod.kin hk (thn (ha.run pos pins s σ H _ I h) fun us s1 ⟨vs, H1, I1, r, q⟩ => ⟨I1.kIn, runG F hst hr hb hd hx I1 r q⟩) he hpl) hdb)⟩
end
/-! ### what a def over data promises: of the arguments ds (ahead of them the bag, if bagged), any answer that post names -/
def SameBut (b l : Addr) (H H' : Hp) : Prop := (∀ a o, a ≠ b → H a = some o → H' a = some o) ∧ Bag H' b l
def spD (K : PySem.W.Frag) (pre : List D → Prop) (post : List D → D → Prop) : Sp := fun vs H Q _ => ∃ (S : Addr → Prop) (ds : List D), (∀ a, S a → Thing (H a)) ∧ RpA K (hid S H) vs ds ∧ pre ds ∧
  ∀ v H' d, (∀ a o, H a = some o → H' a = some o) → post ds d → Rp K (hid S H') v d → Q v H'
def spB (K : PySem.W.Frag) (pre : List D → Prop) (post : List D → D → Prop) : Sp := fun vs H Q _ => ∃ (b l : Addr) (ws : List V) (S : Addr → Prop) (ds : List D), vs = .ref b :: ws ∧ S b ∧ S l ∧ Bag H b l ∧ (∀ a, S a → Thing (H a)) ∧ RpA K (hid S H) ws ds ∧ pre ds ∧
  ∀ v H' d, SameBut b l H H' → post ds d → Rp K (hid S H') v d → Q v H'
section
variable {C : Cq} {X : Cx} {k : Nat} {f : Addr} {fd : FuncData} {ps : List Str} {x : Str} {p pos : Pos} {e : Expr} {es : List Expr} {t : DA} {pre : List D → Prop} {post : List D → D → Prop}
def dCall (pre : List D → Prop) (post : List D → D → Prop) (t : DA) : DE := fun Γ k => t Γ fun ds => pre ds ∧ ∀ d, post ds d → k d
theorem ed_call (F : FnG X.prog X.w X.K X.mg X.base CX0 k f fd ps (spD C.K pre post)) (hst : Still X.base X.A) (hr : Room k X.A) (hg : Gl X x) (hm : X.mg x = some (.ref f)) (hk : PySem.W.keepIn X.K (.ref f) = true) (hb : Binds X.K fd ps [])
    (ha : AD C X (e :: es) t) (hdb : (x == ("__debug__" : Str)) = false := by decide) (he : starEach (e :: es) X.env = (false, eval e X.env) :: starEach es X.env := by rfl) (hpl : (backTo pos (starEach es X.env)).any (·.1) = false := by rfl) :
    ED C X (.Call (.Name x p) (e :: es) [] pos) (dCall pre post t) :=
  ⟨(pe_callG F hst hr hg hm hk hb .nil (pass0 (X := X)) ha.pa hdb he hpl).weak fun σ H Q ⟨Γ, Ts, κ, r, h, ans⟩ => ⟨Γ, Ts, _, r, h, fun vs H1 ds ⟨hp, hq⟩ ⟨r1, q⟩ => by
    show spD C.K pre post (vs ++ []) H1 Q E0
    rw [List.append_nil]
    exact ⟨sh C (Ts ++ pairs σ Γ), ds, fun a z => r1.rel.thing z, q, hp, fun v H' d g hd rv => ans v H' d (hq d hd) ((r1.grow g).push rv)⟩⟩⟩
/-- f(bag, e, ..) -/
def dCallB (i : Nat) (pre : List D → Prop) (post : List D → D → Prop) (t : DA) : DE := fun Γ k => Γ[i]? = some (some .bag) ∧ t Γ fun ds => pre ds ∧ ∀ d, post ds d → k d
theorem pa_bag (i : Nat) {y : Str} {py : Pos} (hN : X.N[i]? = some y := by rfl) (hv : Vis X.env.scope y := by first | exact Or.inl rfl | exact Or.inr (Or.inl rfl) | exact Or.inr (Or.inr rfl)) (ha : AD C X es t) (hd : (y == ("__debug__" : Str)) = false := by decide)
    (hcd : (y == ("__classdict__" : Str)) = false := by decide) (hs : starEach (.Name y py :: es) X.env = (false, eval (.Name y py) X.env) :: starEach es X.env := by rfl) : PA X (.Name y py :: es) (tCons (tVar i) (liftA C t)) :=
  pa_cons (pe_var hN hv hd hcd) ha.pa hs
theorem ed_callB {i : Nat} {y : Str} {py : Pos} (F : FnG X.prog X.w X.K X.mg X.base CX0 k f fd ps (spB C.K pre post)) (hst : Still X.base X.A) (hr : Room k X.A) (hg : Gl X x) (hm : X.mg x = some (.ref f)) (hk : PySem.W.keepIn X.K (.ref f) = true) (hb : Binds X.K fd ps [])
    (ha : PA X (.Name y py :: es) (tCons (tVar i) (liftA C t))) (hdb : (x == ("__debug__" : Str)) = false := by decide) (he : starEach (.Name y py :: es) X.env = (false, eval (.Name y py) X.env) :: starEach es X.env := by rfl) (hpl : (backTo pos (starEach es X.env)).any (·.1) = false := by rfl) :
    ED C X (.Call (.Name x p) (.Name y py :: es) [] pos) (dCallB i pre post t) :=
  ⟨(pe_callG F hst hr hg hm hk hb .nil (pass0 (X := X)) ha hdb he hpl).weak fun σ H Q ⟨Γ, Ts, κ, r, ⟨hb, h⟩, ans⟩ => by
    obtain ⟨v, e1, m⟩ := r.get hb
    obtain ⟨b, hbg, rfl⟩ := r.rel.ok _ m
    refine ⟨_, e1, Γ, Ts, _, r, h, fun vs H1 ds ⟨hp, hq⟩ ⟨r1, q⟩ => ?_⟩
    show spB C.K pre post ((.ref b :: vs) ++ []) H1 Q E0
    rw [List.append_nil]
    exact ⟨b, C.bl, vs, sh C (Ts ++ pairs σ Γ), ds, rfl, .inl (r1.rel.bag b hbg).1, .inl (r1.rel.bag b hbg).2.1, (r1.rel.bag b hbg).2.2, fun a z => r1.rel.thing z, q, hp, fun v H' d g hd rv => ans v H' d (hq d hd) ((r1.step (fun a o n z => g.1 a o (fun w => n (by rw [w, hbg])) z) fun c z => by
      rw [hbg] at z
      cases z
      exact g.2).push rv)⟩⟩
end
/-! ### statements -/
theorem Sub.nil {L : List (V × B)} : Sub [] L := ⟨L, .refl _⟩
structure Out where
  nx : G → Prop
  rt : D → Prop
  bk : G → Prop := fun _ => False
  ct : G → Prop := fun _ => False
abbrev DS := Out → G → Prop
def RetOk (C : Cq) (rt : D → Prop) (Q : VK) : Prop := ∀ v H d σ Γ, rt d → RS C σ H Γ [(v, .dat d)] → Q v H
def liftS (C : Cq) (t : DS) : TS := fun D' σ H => ∃ Γ Ts O, RS C σ H Γ Ts ∧ t O Γ ∧ (∀ σ' H' Γ', O.nx Γ' → RS C σ' H' Γ' Ts → D'.nx σ' H') ∧ RetOk C O.rt D'.rt ∧
  (∀ σ' H' Γ', O.bk Γ' → RS C σ' H' Γ' Ts → D'.bk σ' H') ∧ ∀ σ' H' Γ', O.ct Γ' → RS C σ' H' Γ' Ts → D'.ct σ' H'
structure SD (C : Cq) (X : Cx) (st : Stmt) (t : DS) : Prop where
  ps : PS X st (liftS C t)
structure SSD (C : Cq) (X : Cx) (sts : List Stmt) (t : DS) : Prop where
  pss : PSs X sts (liftS C t)
section
variable {C : Cq} {X : Cx}
def sNext : DS := fun O Γ => O.nx Γ
def sSeq (t u : DS) : DS := fun O Γ => t { O with nx := u O } Γ
theorem ss_nil : SSD C X [] sNext := ⟨pss_nil.weak fun D' σ H ⟨Γ, Ts, O, r, h, n, _⟩ => n σ H Γ h r⟩
theorem ss_one {st : Stmt} {t : DS} (h : SD C X st t) : SSD C X [st] t := ⟨pss_one h.ps⟩
theorem ss_cons {st : Stmt} {rest : List Stmt} {t u : DS} (h1 : SD C X st t) (h2 : SSD C X rest u) : SSD C X (st :: rest) (sSeq t u) :=
  ⟨(pss_cons h1.ps h2.pss).weak fun D' σ H ⟨Γ, Ts, O, r, h, n, q, b, c⟩ => ⟨Γ, Ts, { O with nx := u O }, r, h, fun σ' H' Γ' h' r' => ⟨Γ', Ts, O, r', h', n, q, b, c⟩, q, b, c⟩⟩
def sRet (a : DE) : DS := fun O Γ => a Γ O.rt
theorem sd_ret {e : Expr} {pos : Pos} {a : DE} (h : ED C X e a) : SD C X (.Return (some e) pos) (sRet a) :=
  ⟨(ps_ret h.pe).weak fun D' σ H ⟨Γ, Ts, O, r, h, n, q, _⟩ => ⟨Γ, Ts, _, r, h, fun v H' d hd r' => q v H' d σ Γ hd (r'.sub (Sub.cons Sub.nil))⟩⟩
def sIf (t : DT) (a b : DS) : DS := fun O Γ => t Γ fun c => if c = true then a O Γ else b O Γ
theorem sd_if {c : Expr} {x y : List Stmt} {pos : Pos} {t : DT} {a b : DS} (hc : TD C X c t) (ha : SSD C X x a) (hb : SSD C X y b) : SD C X (.If c x y pos) (sIf t a b) :=
  ⟨(ps_if hc.pt ha.pss hb.pss).weak fun D' σ H ⟨Γ, Ts, O, r, h, ends⟩ => ⟨Γ, Ts, _, r, h, fun c H' h' r' => by
    cases c with
    | true => exact ⟨Γ, Ts, O, r', h', ends⟩
    | false => exact ⟨Γ, Ts, O, r', h', ends⟩⟩⟩
theorem sd_pass {pos : Pos} : SD C X (.Pass pos) sNext := ⟨ps_pass.weak fun D' σ H ⟨Γ, Ts, O, r, h, n, _⟩ => n σ H Γ h r⟩
def sExpr (a : DE) : DS := fun O Γ => a Γ fun _ => O.nx Γ
theorem sd_expr {e : Expr} {pos : Pos} {a : DE} (h : ED C X e a) (hs : swapsWith e none pos.line X.env = pure false := by rfl) : SD C X (.Expr e pos) (sExpr a) :=
  ⟨(ps_expr h.pe hs).weak fun D' σ H ⟨Γ, Ts, O, r, h, n, _⟩ => ⟨Γ, Ts, _, r, h, fun v H' d hd r' => n σ H' Γ hd r'.drop⟩⟩
/-- x = e -/
theorem RS.set {σ : L2.St} {H : Hp} {Γ : G} {Ts : List (V × B)} {v : V} {b : B} (r : RS C σ H Γ ((v, b) :: Ts)) (i : Nat) : RS C (σ.set i (some v)) H (Γ.set i (some b)) Ts := by
  refine ⟨r.rel.sub ?_, by rw [List.length_set, List.length_set]; exact r.len, fun j c h => ?_⟩
  · have s := Sub.append (A := Ts) (pairs_set (σ := σ) (Γ := Γ) (i := i) (v := v) (b := b))
    refine s.trans ⟨[], ?_⟩
    rw [List.append_nil]
    exact (List.perm_middle (l₁ := Ts) (a := (v, b)) (l₂ := pairs σ Γ)).symm
  · by_cases e : i = j
    · subst e
      by_cases hl : i < Γ.length
      · rw [List.getElem?_set_self (by rw [← r.len]; exact hl)]
        exact ⟨v, rfl⟩
      · rw [List.getElem?_eq_none (by rw [List.length_set]; omega)] at h
        cases h
    · rw [List.getElem?_set_ne e] at h ⊢
      exact r.cov j c h
def sSet (i : Nat) (a : DE) : DS := fun O Γ => a Γ fun d => O.nx (Γ.set i (some (.dat d)))
theorem sd_set {i : Nat} {x : Str} {e : Expr} {pos pos' : Pos} {a : DE} (hN : X.N.Nodup) (hi : X.N[i]? = some x) (hx : Loc X.env.scope x) (he : ED C X e a) (hs : swapsWith e (some (.Name x pos')) pos.line X.env = pure false := by rfl)
    (hf : X.fn x = true ∨ X.env.scope.names.lookup x = some .local := by first | exact .inl rfl | exact .inr rfl | assumption) : SD C X (.Assign [.Name x pos'] e pos) (sSet i a) :=
  ⟨(ps_set hN hi hx he.pe hs hf).weak fun D' σ H ⟨Γ, Ts, O, r, h, n, _⟩ => ⟨Γ, Ts, _, r, h, fun v H' d hd r' => n _ H' _ hd (r'.set i)⟩⟩
/-- x, y = a, b -/
def sPar (i j : Nat) (t : DA) : DS := fun O Γ => t Γ fun ds => ∃ d e, ds = [d, e] ∧ O.nx ((Γ.set i (some (.dat d))).set j (some (.dat e)))
theorem sd_par {i j : Nat} {x y : Str} {a b : Expr} {t : DA} {px py pt pos : Pos} {kt k2 pt2} (hc : X.calm = true) (hN : X.N.Nodup) (hi : X.N[i]? = some x) (hj : X.N[j]? = some y) (hij : i ≠ j)
    (hx : X.env.scope.names.lookup x = some .local) (hy : X.env.scope.names.lookup y = some .local) (ha : AD C X [a, b] t)
    (hw : swappedStores [.Tuple [.Name x px, .Name y py] kt pt] (.Tuple [a, b] k2 pt2) X.env = pure (some [x, y]))
    (hs : swapsWithSole [.Tuple [.Name x px, .Name y py] kt pt] (.Tuple [a, b] k2 pt2) pos.line X.env = pure false := by rfl) :
    SD C X (.Assign [.Tuple [.Name x px, .Name y py] kt pt] (.Tuple [a, b] k2 pt2) pos) (sPar i j t) :=
  ⟨(ps_par hc hN hi hj hij hx hy ha.pa hw hs).weak fun D' σ H ⟨Γ, Ts, O, r, h, n, _⟩ => ⟨Γ, Ts, _, r, h, fun vs H' ds ⟨d, e, hds, hn⟩ ⟨r', q⟩ => by
    subst hds
    cases q with
    | @cons u _ _ _ q1 q2 =>
      cases q2 with
      | @cons w _ _ _ q2 q3 =>
        cases q3
        refine ⟨_, _, rfl, n _ H' _ hn ?_⟩
        have r1 := r'.push q1
        have r2 : RS C σ H' Γ ((w, .dat e) :: (u, .dat d) :: Ts) := r1.push (by
          show Rp C.K (hid (sh C ((u, B.dat d) :: (Ts ++ pairs σ Γ))) H') w e
          rw [sh_dat]
          exact q2)
        exact ((r2.sub Sub.swap).set i).set j⟩⟩
end
end DL

namespace DL
open PySem PySem.Spec PyProof.Rows L2
/-! ### targets -/
inductive Pat where
  | nm (i : Nat) | tp (is : List Nat)
def setAll : List Nat → List D → G → G
  | i :: r, d :: ds, Γ => setAll r ds (Γ.set i (some (.dat d)))
  | _, _, Γ => Γ
def setP : Pat → D → G → Option G
  | .nm i, d, Γ => some (Γ.set i (some (.dat d)))
  | .tp is, .tup ds, Γ => if is.length = ds.length then some (setAll is ds Γ) else none
  | _, _, _ => none
def gNames : List Nat → TGs
  | [] => gNil
  | i :: r => gCons (gName i) (gNames r)
def gP (K : PySem.W.Frag) : Pat → TG
  | .nm i => gName i
  | .tp is => gTup K is.length (gNames is)
def Pat.slots : Pat → List Nat
  | .nm i => [i]
  | .tp is => is
def Off {α : Type} (is : List Nat) (l l' : List α) : Prop := l'.length = l.length ∧ ∀ j, j ∉ is → l'[j]? = l[j]?
theorem Off.refl {α : Type} (is : List Nat) (l : List α) : Off is l l := ⟨rfl, fun _ _ => rfl⟩
theorem Off.set {α : Type} (i : Nat) (l : List α) (x : α) : Off [i] l (l.set i x) := ⟨List.length_set, fun j h => List.getElem?_set_ne fun e => h (by rw [e]; exact List.mem_singleton.mpr rfl)⟩
theorem Off.trans {α : Type} {is js : List Nat} {l m n : List α} (h : Off is l m) (g : Off js m n) : Off (is ++ js) l n :=
  ⟨g.1.trans h.1, fun j hj => (g.2 j fun z => hj (List.mem_append_right _ z)).trans (h.2 j fun z => hj (List.mem_append_left _ z))⟩
theorem Off.mono {α : Type} {is js : List Nat} {l m : List α} (h : Off is l m) (s : ∀ j ∈ is, j ∈ js) : Off js l m := ⟨h.1, fun j hj => h.2 j fun z => hj (s j z)⟩
section
variable {C : Cq} {H : Hp}
theorem names_go : ∀ {is : List Nat} {vs : List V} {ds : List D} {σ : L2.St} {Γ : G} {Ts : List (V × B)} {Q : L2.St → Hp → Prop}, is.length = ds.length → AllIn C σ H Γ Ts vs ds →
    (∀ σ', RS C σ' H (setAll is ds Γ) Ts → Off is σ σ' → Off is Γ (setAll is ds Γ) → Q σ' H) → gNames is vs σ H Q
  | [], vs, ds, σ, Γ, Ts, Q, hl, ⟨r, q⟩, k => by
    cases ds with
    | nil =>
      cases q
      exact ⟨rfl, k σ r (Off.refl _ _) (Off.refl _ _)⟩
    | cons => cases hl
  | i :: is, vs, ds, σ, Γ, Ts, Q, hl, ⟨r, q⟩, k => by
    cases ds with
    | nil => cases hl
    | cons d ds =>
      cases q with
      | @cons v vs _ _ q1 q2 =>
        have r1 : RS C σ H Γ ((v, .dat d) :: Ts) := r.push q1
        have r2 := r1.set i
        refine ⟨v, vs, rfl, names_go (is := is) (vs := vs) (ds := ds) (Γ := Γ.set i (some (.dat d))) (Ts := Ts) (Nat.succ.inj hl) ⟨r2, ?_⟩ fun σ' r' o1 o2 => k σ' r' ?_ ?_⟩
        · refine q2.mono (hid_mono (fun a z => ?_) fun a o _ e => e)
          have s : Sub (Ts ++ pairs (σ.set i (some v)) (Γ.set i (some (.dat d)))) ((v, .dat d) :: (Ts ++ pairs σ Γ)) :=
            (Sub.append (A := Ts) pairs_set).trans ⟨[], by rw [List.append_nil]; exact (List.perm_middle (l₁ := Ts) (a := (v, B.dat d)) (l₂ := pairs σ Γ)).symm⟩
          rcases z with z | z
          · exact .inl z
          · have z' := s.owns a z
            rw [owns_dat] at z'
            exact .inr z'
        · exact ((Off.set i σ (some v)).trans o1).mono fun j hj => by simpa using hj
        · exact ((Off.set i Γ (some (.dat d))).trans o2).mono fun j hj => by simpa using hj
theorem pat_go {p : Pat} {v : V} {d : D} {σ : L2.St} {Γ Γ' : G} {Ts : List (V × B)} {Q : L2.St → Hp → Prop} (r : RS C σ H Γ ((v, .dat d) :: Ts)) (h : setP p d Γ = some Γ')
    (k : ∀ σ', RS C σ' H Γ' Ts → Off p.slots σ σ' → Off p.slots Γ Γ' → Q σ' H) : gP C.K p v σ H Q := by
  cases p with
  | nm i =>
    obtain rfl : Γ.set i (some (.dat d)) = Γ' := Option.some.inj h
    exact k _ (r.set i) (Off.set _ _ _) (Off.set _ _ _)
  | tp is =>
    cases d with
    | tup ds =>
      by_cases hl : is.length = ds.length
      · rw [setP, if_pos hl] at h
        obtain rfl := Option.some.inj h
        have t := r.top
        cases t with
        | @tup a xs _ e q =>
          refine ⟨a, xs, rfl, SqT.of (hid_full _ _ e), by rw [q.length]; exact hl.symm, names_go hl ⟨r.drop, q⟩ k⟩
      · rw [setP, if_neg hl] at h
        cases h
    | _ => cases h
end
/-! ### what a for walks -/
structure WkD (C : Cq) (J : It) (tmp : V × B) (ds : List D) : Prop where
  goes : ∀ i H L, i < ds.length → RelL C H (tmp :: L) → J.go i H
  stops : ∀ H L, RelL C H (tmp :: L) → J.stop ds.length H
  yields : ∀ i H x H' L, i < ds.length → RelL C H (tmp :: L) → J.yld i H x H' → ∃ d, ds[i]? = some d ∧ RelL C H' ((x, .dat d) :: tmp :: L)
abbrev DI := G → (List D → Prop) → Prop
def liftI (C : Cq) (t : DI) : TI := fun σ H R => ∃ Γ Ts k, RS C σ H Γ Ts ∧ t Γ k ∧ ∀ J H' tmp ds, k ds → WkD C J tmp ds → owns [tmp] = [] → RS C σ H' Γ (tmp :: Ts) → R J H'
structure IDd (C : Cq) (X : Cx) (tg iter : Expr) (t : DI) : Prop where
  pi : PI X tg iter (liftI C t)
theorem _root_.L2.PI.weak {X : Cx} {tg e : Expr} {t t' : TI} (h : PI X tg e t) (w : ∀ σ H Q, t' σ H Q → t σ H Q) : PI X tg e t' := ⟨fun pins s σ H R I q => h.run pins s σ H R I (w σ H R q)⟩
section
variable {C : Cq} {X : Cx} {tg : Expr}
theorem wk_list {a : Addr} {ds : List D} : WkD C (Itl C.K a) (.ref a, .dat (.lst ds)) ds := by
  have rd : ∀ {H : Hp} {L : List (V × B)}, RelL C H ((V.ref a, B.dat (.lst ds)) :: L) → ∃ xs, H a = some (.lst xs) ∧ RpA C.K (hid (sh C L) H) xs ds := fun {H L} r => by
    have t := r.top
    cases t with
    | lst e q => exact ⟨_, hid_full _ _ e, q⟩
  refine ⟨fun i H L hi r => ?_, fun H L r => ?_, fun i H x H' L hi r y => ?_⟩
  · obtain ⟨xs, e, q⟩ := rd r
    have hx : i < xs.length := by rw [q.length]; exact hi
    exact ⟨xs, xs[i], SqL.of e, by simp [hx]⟩
  · obtain ⟨xs, e, q⟩ := rd r
    exact ⟨xs, SqL.of e, by rw [q.length]; exact Nat.le_refl _⟩
  · obtain ⟨xs, e, q⟩ := rd r
    obtain ⟨rfl, hx⟩ := y
    obtain ⟨d, e1, e2⟩ := q.get' (hx xs (SqL.of e))
    refine ⟨d, e1, r.push ?_⟩
    rw [sh_dat]
    exact e2
theorem wk_tup {a : Addr} {ds : List D} : WkD C (Itt C.K a) (.ref a, .dat (.tup ds)) ds := by
  have rd : ∀ {H : Hp} {L : List (V × B)}, RelL C H ((V.ref a, B.dat (.tup ds)) :: L) → ∃ xs, H a = some (.tup xs) ∧ RpA C.K (hid (sh C L) H) xs ds := fun {H L} r => by
    have t := r.top
    cases t with
    | tup e q => exact ⟨_, hid_full _ _ e, q⟩
  refine ⟨fun i H L hi r => ?_, fun H L r => ?_, fun i H x H' L hi r y => ?_⟩
  · obtain ⟨xs, e, q⟩ := rd r
    have hx : i < xs.length := by rw [q.length]; exact hi
    exact ⟨xs, xs[i], SqT.of e, by simp [hx]⟩
  · obtain ⟨xs, e, q⟩ := rd r
    exact ⟨xs, SqT.of e, by rw [q.length]; exact Nat.le_refl _⟩
  · obtain ⟨xs, e, q⟩ := rd r
    obtain ⟨rfl, hx⟩ := y
    obtain ⟨d, e1, e2⟩ := q.get' (hx xs (SqT.of e))
    refine ⟨d, e1, r.push ?_⟩
    rw [sh_dat]
    exact e2
/-- the ints lo, lo + 1, .. -/
def rngD (lo : Int) (n : Nat) : List D := (List.range n).map fun i => D.int (lo + (i : Nat))
theorem wk_range {lo : Int} {n : Nat} : WkD C (Itr lo n) (.non, .dat .non) (rngD lo n) := by
  have hl : (rngD lo n).length = n := by unfold rngD; rw [List.length_map, List.length_range]
  refine ⟨fun i H L hi r => by rw [hl] at hi; exact hi, fun H L r => by rw [hl]; exact Nat.le_refl n, fun i H x H' L hi r y => ?_⟩
  obtain ⟨rfl, rfl⟩ := y
  rw [hl] at hi
  refine ⟨.int (lo + (i : Nat)), ?_, r.push (.int _)⟩
  unfold rngD
  rw [List.getElem?_map, List.getElem?_range hi]
  rfl
/-- for x in e: e a list (a tuple) -/
def iL (a : DE) : DI := fun Γ k => a Γ fun d => ∃ ds, d = .lst ds ∧ k ds
def iT (a : DE) : DI := fun Γ k => a Γ fun d => ∃ ds, d = .tup ds ∧ k ds
def iR (t : DA) : DI := fun Γ k => t Γ fun ds => ∃ j : Int, ds = [.int j] ∧ -(2 ^ 62) ≤ j ∧ j < 2 ^ 62 ∧ k (rngD 0 j.toNat)
def iR2 (t : DA) : DI := fun Γ k => t Γ fun ds => ∃ i j : Int, ds = [.int i, .int j] ∧ (-(2 ^ 62) ≤ i ∧ i < 2 ^ 62 ∧ -(2 ^ 62) ≤ j ∧ j < 2 ^ 62) ∧ k (rngD i (j - i).toNat)
theorem id_list {l : Expr} {a : DE} (hk : C.K = X.K) (h : ED C X l a) : IDd C X tg l (iL a) := ⟨(pi_list h.pe).weak fun σ H R ⟨Γ, Ts, k, r, h, z⟩ => ⟨Γ, Ts, _, r, h, fun v H' d ⟨ds, e, hd⟩ r' => by
  subst e
  have t := r'.top
  cases t with
  | @lst a xs _ e q =>
    refine ⟨a, rfl, ⟨xs, SqL.of (hid_full _ _ e)⟩, ?_⟩
    rw [← hk]
    exact z _ _ _ _ hd wk_list rfl r'⟩⟩
theorem id_tup {l : Expr} {a : DE} (hk : C.K = X.K) (h : ED C X l a) : IDd C X tg l (iT a) := ⟨(pi_tup h.pe).weak fun σ H R ⟨Γ, Ts, k, r, h, z⟩ => ⟨Γ, Ts, _, r, h, fun v H' d ⟨ds, e, hd⟩ r' => by
  subst e
  have t := r'.top
  cases t with
  | @tup a xs _ e q =>
    refine ⟨a, rfl, ⟨xs, SqT.of (hid_full _ _ e)⟩, ?_⟩
    rw [← hk]
    exact z _ _ _ _ hd wk_tup rfl r'⟩⟩
theorem id_range {e : Expr} {t : DA} {p pos : Pos} (hg : Gl X "range") (hm : X.mg "range" = none) (ha : AD C X [e] t) (hs : starEach [e] X.env = [(false, eval e X.env)] := by rfl) : IDd C X tg (.Call (.Name "range" p) [e] [] pos) (iR t) :=
  ⟨(pi_range1 hg hm ha.pa hs).weak fun σ H R ⟨Γ, Ts, k, r, h, z⟩ => ⟨Γ, Ts, _, r, h, fun vs H' ds ⟨j, e, h1, h2, hd⟩ ⟨r', q⟩ => by
    subst e
    cases q with
    | cons q1 q2 =>
      cases q1
      cases q2
      exact ⟨j, rfl, h1, h2, z _ _ _ _ hd wk_range rfl (r'.push .non)⟩⟩⟩
theorem id_range2 {a b : Expr} {t : DA} {p pos : Pos} (hg : Gl X "range") (hm : X.mg "range" = none) (ha : AD C X [a, b] t) (hs : starEach [a, b] X.env = [(false, eval a X.env), (false, eval b X.env)] := by rfl) (hs2 : starEach [b] X.env = [(false, eval b X.env)] := by rfl) :
    IDd C X tg (.Call (.Name "range" p) [a, b] [] pos) (iR2 t) :=
  ⟨(pi_range2 hg hm ha.pa hs hs2).weak fun σ H R ⟨Γ, Ts, k, r, h, z⟩ => ⟨Γ, Ts, _, r, h, fun vs H' ds ⟨i, j, e, h1, hd⟩ ⟨r', q⟩ => by
    subst e
    cases q with
    | cons q1 q2 =>
      cases q1
      cases q2 with
      | cons q2 q3 =>
        cases q2
        cases q3
        exact ⟨i, j, rfl, h1, z _ _ _ _ hd wk_range rfl (r'.push .non)⟩⟩⟩
/-! ### for -/
def loopK (p : Pat) (tb : DS) (O : Out) : List D → G → Prop
  | [], Γ => O.nx Γ
  | d :: ds, Γ => ∃ Γ', setP p d Γ = some Γ' ∧ tb { nx := loopK p tb O ds, rt := O.rt, bk := O.nx, ct := loopK p tb O ds } Γ'
def sFor (p : Pat) (ti : DI) (tb : DS) : DS := fun O Γ => ti Γ fun ds => loopK p tb O ds Γ
theorem sd_for {p : Pat} {iter : Expr} {body : List Stmt} {ti : DI} {tb : DS} {pos : Pos} (hp : PassesOwn (model X.prog X.w) X.A X.env X.xe) (hc : X.calm = true) (hi : IDd C X tg iter ti) (hg : PG X tg (gP C.K p)) (hb : SSD C X body tb) (hs : ∀ x, foldedSetIterable iter X.env x = pure x := by intro _; rfl) : SD C X (.For tg iter body [] pos) (sFor p ti tb) :=
  ⟨(ps_for hp hc hi.pi hg hb.pss hs).weak fun D' σ H ⟨Γ, Ts, O, r, h, n, q, b, c⟩ => ⟨Γ, Ts, _, r, h, fun J H' tmp ds hd w ho r' => by
    refine ⟨fun i m σ H => m = ds.length - i ∧ i ≤ ds.length ∧ ∃ Γ', RS C σ H Γ' (tmp :: Ts) ∧ loopK p tb O (ds.drop i) Γ', ⟨ds.length, rfl, Nat.zero_le _, Γ, r', hd⟩, ?_⟩
    rintro i m σ H ⟨rfl, hle, Γ1, r1, h1⟩
    by_cases hlt : i < ds.length
    · refine .inr ⟨w.goes i H _ hlt r1.rel, fun σ H => ∃ Γ', RS C σ H Γ' (tmp :: Ts) ∧ loopK p tb O (ds.drop (i + 1)) Γ', fun σ' H' z => ⟨ds.length - (i + 1), by omega, rfl, hlt, z⟩, fun x H2 y => ?_⟩
      obtain ⟨d, e, r2⟩ := w.yields i H x H2 _ hlt r1.rel y
      have ed : ds.drop i = d :: ds.drop (i + 1) := by
        obtain ⟨hl, e'⟩ := List.getElem?_eq_some_iff.mp e
        rw [← e']
        exact List.drop_eq_getElem_cons hl
      rw [ed] at h1
      obtain ⟨Γ2, e2, h2⟩ := h1
      have r3 : RS C σ H2 Γ1 ((x, .dat d) :: tmp :: Ts) := ⟨r2, r1.len, r1.cov⟩
      refine pat_go r3 e2 fun σ3 r4 _ _ => ⟨Γ2, tmp :: Ts, _, r4, h2, fun σ' H' Γ' hk rk => ⟨Γ', rk, hk⟩, q, fun σ' H' Γ' hk rk => n σ' H' Γ' hk rk.drop, fun σ' H' Γ' hk rk => ⟨Γ', rk, hk⟩⟩
    · have e : ds.drop i = [] := List.drop_eq_nil_of_le (by omega)
      rw [e] at h1
      have ei : i = ds.length := by omega
      rw [ei]
      exact .inl ⟨w.stops H _ r1.rel, n σ H Γ1 h1 r1.drop⟩⟩⟩
end
end DL

namespace DL
open PySem PySem.Spec PyProof.Rows L2
def wipeG (Γ : G) : List Nat → G
  | [] => Γ
  | v :: vs => (wipeG Γ vs).set v none
theorem wipeG_length (Γ : G) : ∀ vs : List Nat, (wipeG Γ vs).length = Γ.length
  | [] => rfl
  | v :: vs => by unfold wipeG; rw [List.length_set, wipeG_length Γ vs]
theorem wipeG_get (Γ : G) (j : Nat) : ∀ vs : List Nat, (wipeG Γ vs)[j]? = if j ∈ vs then (if j < Γ.length then some none else none) else Γ[j]?
  | [] => by simp [wipeG]
  | v :: vs => by
    have t := wipeG_get Γ j vs
    unfold wipeG
    by_cases e : v = j
    · subst e
      rw [if_pos List.mem_cons_self, List.getElem?_set, if_pos rfl, wipeG_length]
    · rw [List.getElem?_set_ne e, t]
      have : (j ∈ v :: vs) ↔ j ∈ vs := by simp [Ne.symm e]
      simp only [this]
theorem wipe_get (σ : L2.St) (j : Nat) : ∀ vs : List Nat, (wipe σ vs)[j]? = if j ∈ vs then (if j < σ.length then some none else none) else σ[j]?
  | [] => by simp [wipe]
  | v :: vs => by
    have t := wipe_get σ j vs
    unfold wipe
    by_cases e : v = j
    · subst e
      rw [if_pos List.mem_cons_self, List.getElem?_set, if_pos rfl, wipe_length]
    · rw [List.getElem?_set_ne e, t]
      have : (j ∈ v :: vs) ↔ j ∈ vs := by simp [Ne.symm e]
      simp only [this]
theorem wipe_off {σ σ' : L2.St} {vs : List Nat} (h : Off vs (wipe σ vs) σ') : wipe σ' vs = wipe σ vs := by
  apply List.ext_getElem?
  intro j
  have h1 := h.1
  rw [wipe_length] at h1
  rw [wipe_get, wipe_get]
  by_cases hj : j ∈ vs
  · rw [if_pos hj, if_pos hj, h1]
  · rw [if_neg hj, if_neg hj, h.2 j hj, wipe_get, if_neg hj]
theorem wipeG_off {Γ Γ' : G} {vs : List Nat} (h : Off vs (wipeG Γ vs) Γ') : wipeG Γ' vs = wipeG Γ vs := by
  apply List.ext_getElem?
  intro j
  have h1 := h.1
  rw [wipeG_length] at h1
  rw [wipeG_get, wipeG_get]
  by_cases hj : j ∈ vs
  · rw [if_pos hj, if_pos hj, h1]
  · rw [if_neg hj, if_neg hj, h.2 j hj, wipeG_get, if_neg hj]
theorem pairs_none : ∀ (σ : L2.St) (Γ : G) (i : Nat), ∃ e, (pairs σ Γ).Perm (e ++ pairs (σ.set i none) (Γ.set i none))
  | x :: σ, y :: Γ, 0 => by
    cases x with
    | none => exact ⟨[], by cases y <;> exact .refl _⟩
    | some x =>
      cases y with
      | none => exact ⟨[], .refl _⟩
      | some y => exact ⟨[(x, y)], .refl _⟩
  | x :: σ, y :: Γ, i + 1 => by
    obtain ⟨e, p⟩ := pairs_none σ Γ i
    cases x with
    | none => exact ⟨e, by cases y <;> exact p⟩
    | some x =>
      cases y with
      | none => exact ⟨e, p⟩
      | some y =>
        refine ⟨e, ?_⟩
        exact (p.cons (x, y)).trans List.perm_middle.symm
  | [], Γ, i => ⟨[], by simp [pairs]⟩
  | x :: σ, [], i => ⟨[], by cases i <;> cases x <;> simp [pairs, List.set]⟩
theorem pairs_wipe (σ : L2.St) (Γ : G) : ∀ vs : List Nat, ∃ e, (pairs σ Γ).Perm (e ++ pairs (wipe σ vs) (wipeG Γ vs))
  | [] => ⟨[], .refl _⟩
  | v :: vs => by
    obtain ⟨e, p⟩ := pairs_wipe σ Γ vs
    obtain ⟨e2, p2⟩ := pairs_none (wipe σ vs) (wipeG Γ vs) v
    refine ⟨e ++ e2, ?_⟩
    rw [List.append_assoc]
    exact p.trans (p2.append_left e)
theorem pairs_wiped {σ : L2.St} {Γ : G} : ∀ vs : List Nat, Sub (pairs (wipe σ vs) (wipeG Γ vs)) (pairs σ Γ)
  | [] => Sub.refl _
  | v :: vs => pairs_forget.trans (pairs_wiped vs)
section
variable {C : Cq} {H : Hp} {σ : L2.St} {Γ : G} {Ts : List (V × B)}
theorem RS.cov_wipe (r : RS C σ H Γ Ts) (vs : List Nat) : ∀ (i : Nat) (b : B), (wipeG Γ vs)[i]? = some (some b) → ∃ v : V, (wipe σ vs)[i]? = some (some v) := fun i b h => by
  rw [wipeG_get] at h
  rw [wipe_get]
  by_cases hi : i ∈ vs
  · rw [if_pos hi] at h
    split at h <;> cases h
  · rw [if_neg hi] at h ⊢
    exact r.cov i b h
/-- in the block: the wiped slots' things are kept aside -/
theorem RS.inBlk (r : RS C σ H Γ Ts) (vs : List Nat) : ∃ e, (pairs σ Γ).Perm (e ++ pairs (wipe σ vs) (wipeG Γ vs)) ∧ RS C (wipe σ vs) H (wipeG Γ vs) (Ts ++ e) := by
  obtain ⟨e, p⟩ := pairs_wipe σ Γ vs
  refine ⟨e, p, r.rel.sub ⟨[], ?_⟩, by rw [wipeG_length, wipe_length]; exact r.len, r.cov_wipe vs⟩
  rw [List.append_nil, List.append_assoc]
  exact p.append_left Ts
theorem RS.wiped (r : RS C σ H Γ Ts) (vs : List Nat) : RS C (wipe σ vs) H (wipeG Γ vs) Ts :=
  ⟨r.rel.sub (Sub.append (pairs_wiped vs)), by rw [wipeG_length, wipe_length]; exact r.len, r.cov_wipe vs⟩
theorem RelL.freeze {L : List (V × B)} {a : Addr} {d : D} (r : RelL C H ((.ref a, .own d) :: L)) : RelL C H ((.ref a, .dat d) :: L) := by
  obtain ⟨a', ea, t⟩ := r.ok _ List.mem_cons_self
  cases ea
  have n1 := r.own a List.mem_cons_self
  have n2 : a ∉ owns L := (List.nodup_cons.mp r.nd).1
  refine r.rest.push (Top.rp (t.mono (fun o e => hid_mk (fun z => z.elim n1.1 n2) e) (hid_mono (fun b z => z.imp_right (List.mem_cons_of_mem a)) fun _ _ _ e => e)))
/-- the thing that one owns, written -/
theorem RelL.write {L : List (V × B)} {a : Addr} {d d' : D} {o : HO} (r1 : RelL C H ((.ref a, .own d) :: L)) (t : Top C.K (upd H a o) (hid (sh C ((.ref a, .own d) :: L)) H) a d') : RelL C (upd H a o) ((.ref a, .own d') :: L) := by
  have hS : sh C ((.ref a, B.own d') :: L) = sh C ((.ref a, B.own d) :: L) := rfl
  have hin : sh C ((V.ref a, B.own d) :: L) a := .inr List.mem_cons_self
  have keep : ∀ b u, ¬ sh C ((V.ref a, B.own d) :: L) b → H b = some u → upd H a o b = some u := fun b u n z => by
    rw [upd_ne (fun w => n (by rw [w]; exact hin))]
    exact z
  have keep2 : ∀ b u, b ≠ a → H b = some u → upd H a o b = some u := fun b u n z => by
    rw [upd_ne n]
    exact z
  have nb : C.bg ≠ some a := r1.nown List.mem_cons_self
  refine ⟨fun p hp => ?_, fun b hb => ⟨(r1.own b hb).1, (r1.own b hb).2.1, ?_⟩, r1.nd, fun b hb => ?_, fun b hb => ⟨(r1.bag b hb).1, (r1.bag b hb).2.1, ?_⟩, fun b u n z => ?_⟩
  · rw [hS]
    rcases List.mem_cons.mp hp with z | z
    · subst z
      exact ⟨a, rfl, t.mono (fun _ e => e) (hid_mono (fun _ z => z) keep)⟩
    · have h1 := r1.ok p (List.mem_cons_of_mem _ z)
      obtain ⟨v, b⟩ := p
      cases b with
      | dat d' => exact Rp.mono (hid_mono (fun _ z => z) keep) h1
      | own ds' =>
        obtain ⟨a2, rfl, t2⟩ := h1
        have n2 : a2 ≠ a := fun w => by
          subst w
          exact (List.nodup_cons.mp r1.nd).1 (mem_owns z)
        exact ⟨a2, rfl, t2.mono (fun o e => keep2 _ _ n2 e) (hid_mono (fun _ z => z) keep)⟩
      | bag => exact h1
  · by_cases w : b = a
    · subst w
      rw [upd_same]
      exact fun z => by cases z
    · rw [upd_ne w]
      exact (r1.own b hb).2.2
  · by_cases w : b = a
    · subst w
      exact absurd hb (r1.own b List.mem_cons_self).1
    · rw [upd_ne w]
      exact r1.dom b hb
  · obtain ⟨i0, i1, i2, ns, e1, n, e2, rest⟩ := (r1.bag b hb).2.2
    have h1 : b ≠ a := fun w => nb (by rw [← w]; exact hb)
    refine ⟨i0, i1, i2, ns, keep2 _ _ h1 e1, n, keep2 _ _ (fun w => ?_) e2, rest⟩
    exact (r1.own a List.mem_cons_self).1 (by rw [← w]; exact (r1.bag b hb).2.1)
  · have h1 := (r1.own a List.mem_cons_self).2.1
    rw [upd_ne (fun w => by subst w; rw [h1] at z; cases z)]
    exact r1.same b u n z
theorem RelL.mine {L : List (V × B)} {a : Addr} {ds : List D} (r1 : RelL C H ((.ref a, .own (.lst ds)) :: L)) : ∃ xs, H a = some (.lst xs) ∧ RpA C.K (hid (sh C ((.ref a, .own (.lst ds)) :: L)) H) xs ds := by
  obtain ⟨a', ea, t⟩ := r1.ok _ List.mem_cons_self
  cases ea
  cases t with
  | lst e q => exact ⟨_, e, q⟩
theorem RelL.app {L : List (V × B)} {a : Addr} {ds : List D} {y : V} {d : D} (r : RelL C H ((y, .dat d) :: (.ref a, .own (.lst ds)) :: L)) : ∃ xs, H a = some (.lst xs) ∧ xs.length = ds.length ∧ RelL C (upd H a (.lst (xs ++ [y]))) ((.ref a, .own (.lst (ds ++ [d]))) :: L) := by
  obtain ⟨xs, e, q⟩ := r.rest.mine
  exact ⟨xs, e, q.length, r.rest.write (.lst upd_same (q.append (.cons r.top .nil)))⟩
end
end DL

namespace DL
open PySem PySem.Spec PyProof.Rows L2
theorem okB.mono2 {C : Cq} {S S' : Addr → Prop} {H H' : Hp} {p : V × B} (h : okB C S H p) (hh : ∀ a o, hid S H a = some o → hid S' H' a = some o) (ho : ∀ a ds, p = (.ref a, .own ds) → ∀ o, H a = some o → H' a = some o) : okB C S' H' p := by
  obtain ⟨v, b⟩ := p
  cases b with
  | dat d => exact Rp.mono hh h
  | own ds =>
    obtain ⟨a, rfl, t⟩ := h
    exact ⟨a, rfl, t.mono (ho a ds rfl) hh⟩
  | bag => exact h
section
variable {C : Cq} {H : Hp}
theorem RelL.h0 {L : List (V × B)} (r : RelL C H L) {p : Addr} (h : H p = none) : C.H0 p = none := by
  cases q : C.H0 p with
  | none => rfl
  | some o =>
    by_cases hb : C.bg = some p
    · obtain ⟨_, _, _, _, e1, _⟩ := (r.bag p hb).2.2
      rw [h] at e1
      cases e1
    · have := r.same p o hb q
      rw [h] at this
      cases this
/-- a new thing that may be changed -/
theorem RelL.newOwn1 {L : List (V × B)} (r : RelL C H L) {p : Addr} (h : H p = none) {o : HO} {d : D} (k : Top C.K (upd H p o) (hid (sh C L) H) p d) : RelL C (upd H p o) ((.ref p, .own d) :: L) := by
  have out := r.out h
  have g := r.grow (upd_keep h (o := o))
  have hh : ∀ a u, hid (sh C L) H a = some u → hid (sh C ((.ref p, .own d) :: L)) (upd H p o) a = some u := fun a u z => by
    obtain ⟨n, e⟩ := hid_in z
    refine hid_mk (fun w => ?_) (upd_keep h a u e)
    rcases w with w | w
    · exact n (.inl w)
    · rcases List.mem_cons.mp w with w | w
      · subst w
        rw [h] at e
        cases e
      · exact n (.inr w)
  refine ⟨fun q hq => ?_, fun a ha => ?_, List.nodup_cons.mpr ⟨fun z => out (.inr z), g.nd⟩, g.dom, g.bag, g.same⟩
  · rcases List.mem_cons.mp hq with z | z
    · subst z
      exact ⟨p, rfl, k.mono (fun _ e => e) hh⟩
    · exact (r.ok q z).mono2 hh fun a ds _ o e => upd_keep h a o e
  · rcases List.mem_cons.mp ha with z | z
    · subst z
      exact ⟨fun z => out (.inl z), r.h0 h, by rw [upd_same]; exact fun z => by cases z⟩
    · exact g.own a z
theorem RelL.newOwn {L : List (V × B)} (r : RelL C H L) {p : Addr} (h : H p = none) {xs : List V} {ds : List D} (k : RpA C.K (hid (sh C L) H) xs ds) : RelL C (upd H p (.lst xs)) ((.ref p, .own (.lst ds)) :: L) :=
  r.newOwn1 h (.lst upd_same k)
end
/-! ### list comprehensions -/
def lcK (p : Pat) (tt : DT) (te : DE) (Γ0 : G) (k : D → Prop) : List D → List D → Prop
  | [], acc => k (.lst acc)
  | d :: r, acc => ∃ Γ', setP p d Γ0 = some Γ' ∧ tt Γ' fun b => if b = true then te Γ' fun y => lcK p tt te Γ0 k r (acc ++ [y]) else lcK p tt te Γ0 k r acc
def dLc (p : Pat) (ti : DI) (tt : DT) (te : DE) (vs : List Nat) : DE := fun Γ k => ti Γ fun ds => ds.length ≤ 1000000 ∧ lcK p tt te (wipeG Γ vs) k ds []
structure TsD (C : Cq) (X : Cx) (ifs : List Expr) (t : DT) : Prop where
  pts : PTs X ifs (liftT C t)
def dYes : DT := fun _ k => k true
theorem _root_.L2.PTs.weak {X : Cx} {e : List Expr} {t t' : TT} (h : PTs X e t) (w : ∀ σ H Q, t' σ H Q → t σ H Q) : PTs X e t' := ⟨fun pins s σ H Q I q => h.run pins s σ H Q I (w σ H Q q)⟩
section
variable {C : Cq} {X : Cx}
theorem ts_nil : TsD C X [] dYes := ⟨pts_nil.weak fun σ H Q ⟨Γ, Ts, k, r, h, z⟩ => z true H h r⟩
theorem ts_one {c : Expr} {t : DT} (h : TD C X c t) : TsD C X [c] t := ⟨pts_one h.pt⟩
theorem sizeL : 1000000 < sizeLine := by rw [sizeLine_eq]; decide
theorem wipe_wipe (σ : L2.St) (vs : List Nat) : wipe (wipe σ vs) vs = wipe σ vs := wipe_off (Off.refl _ _)
theorem lc_go {p : Pat} {ti : DI} {tt : DT} {te : DE} {vs : List Nat} (hp : ∀ j ∈ p.slots, j ∈ vs) (σ : L2.St) (H : Hp) (Q : VK) (h : liftE C (dLc p ti tt te vs) σ H Q) :
    tLc (liftI C ti) (gP C.K p) (liftT C tt) (liftE C te) vs σ H Q := by
  obtain ⟨Γ, Ts, k, r, h, ans⟩ := h
  refine ⟨Γ, Ts, _, r, h, fun J H1 tmp ds ⟨hlen, hd⟩ w ho r1 D hD => ?_⟩
  obtain ⟨e, pe, r2⟩ := r1.inBlk vs
  have r3 : RS C (wipe σ vs) (upd H1 D (.lst [])) (wipeG Γ vs) ((.ref D, .own (.lst [])) :: tmp :: (Ts ++ e)) := ⟨r2.rel.newOwn hD .nil, r2.len, r2.cov⟩
  refine ⟨fun i m H => m = ds.length - i ∧ i ≤ ds.length ∧ ∃ acc, acc.length ≤ i ∧ RS C (wipe σ vs) H (wipeG Γ vs) ((.ref D, .own (.lst acc)) :: tmp :: (Ts ++ e)) ∧ lcK p tt te (wipeG Γ vs) k (ds.drop i) acc,
    ⟨ds.length, rfl, Nat.zero_le _, [], Nat.le_refl _, r3, hd⟩, ?_⟩
  rintro i m H ⟨rfl, hle, acc, hacc, r4, h4⟩
  have r4' : RelL C H (tmp :: ((.ref D, .own (.lst acc)) :: ((Ts ++ e) ++ pairs (wipe σ vs) (wipeG Γ vs)))) := r4.rel.sub Sub.swap
  by_cases hlt : i < ds.length
  · refine .inr ⟨w.goes i H _ hlt r4', fun H => ∃ acc, acc.length ≤ i + 1 ∧ RS C (wipe σ vs) H (wipeG Γ vs) ((.ref D, .own (.lst acc)) :: tmp :: (Ts ++ e)) ∧ lcK p tt te (wipeG Γ vs) k (ds.drop (i + 1)) acc,
      fun H' z => ⟨ds.length - (i + 1), by omega, rfl, hlt, z⟩, fun x H2 y => ?_⟩
    obtain ⟨d, ed, r5⟩ := w.yields i H x H2 _ hlt r4' y
    have edr : ds.drop i = d :: ds.drop (i + 1) := by
      obtain ⟨hl, e'⟩ := List.getElem?_eq_some_iff.mp ed
      rw [← e']
      exact List.drop_eq_getElem_cons hl
    rw [edr] at h4
    obtain ⟨Γ2, e2, h5⟩ := h4
    have r6 : RS C (wipe σ vs) H2 (wipeG Γ vs) ((x, .dat d) :: (.ref D, .own (.lst acc)) :: tmp :: (Ts ++ e)) := ⟨r5.sub (Sub.cons Sub.swap), r4.len, r4.cov⟩
    refine pat_go r6 e2 fun σ3 r7 o1 o2 => ⟨?_, ?_⟩
    · exact (wipe_off (o1.mono hp)).trans rfl
    · have back : ∀ {H : Hp} {Us : List (V × B)}, RS C σ3 H Γ2 Us → RS C (wipe σ vs) H (wipeG Γ vs) Us := fun {H Us} z => by
        have z2 := z.wiped vs
        rw [wipe_off (o1.mono hp), wipeG_off (o2.mono hp)] at z2
        exact z2
      refine ⟨Γ2, _, _, r7, h5, fun b H3 h6 r8 => ?_⟩
      cases b with
      | false => exact ⟨acc, Nat.le_succ_of_le hacc, back r8, h6⟩
      | true =>
        refine ⟨Γ2, _, _, r8, h6, fun y H4 dy h7 r9 => ?_⟩
        obtain ⟨xs, e3, e4, r10⟩ := (back r9).rel.app
        refine ⟨xs, e3, ?_, acc ++ [dy], ?_, ⟨r10, r4.len, r4.cov⟩, h7⟩
        · have := sizeL
          omega
        · rw [List.length_append, List.length_singleton]
          omega
  · have en : ds.drop i = [] := List.drop_eq_nil_of_le (by omega)
    rw [en] at h4
    have ei : i = ds.length := by omega
    refine .inl ⟨by rw [ei]; exact w.stops H _ r4', ans _ _ _ h4 ?_⟩
    have f := r4.rel.freeze
    refine ⟨f.sub ?_, r1.len, r1.cov⟩
    refine Sub.cons ?_
    refine ⟨[tmp], ?_⟩
    have q : ((Ts ++ e) ++ pairs (wipe σ vs) (wipeG Γ vs)).Perm (Ts ++ pairs σ Γ) := by
      rw [List.append_assoc]
      exact (pe.symm).append_left Ts
    exact (q.cons tmp).trans (List.perm_append_singleton tmp _).symm
theorem ed_lc {p : Pat} {elt tg iter : Expr} {ifs : List Expr} {scope : Scope} {own : List (Str × Nat)} {pos : Pos} {ti : DI} {tt : DT} {te : DE} (hc : X.calm = true) (hN : X.N.Nodup) (hi : IDd C X tg iter ti) (ok : BlkOk X.N X.env.scope scope own)
    (hg : ∀ (s : Shared) (H : Hp) (A : Addr) (cl : List (Str × Addr)) (fp : List Addr), PG (X.blk s H scope (compEnvC scope cl A X.env) fp) tg (gP C.K p)) (ht : ∀ (s : Shared) (H : Hp) (A : Addr) (cl : List (Str × Addr)) (fp : List Addr), TsD C (X.blk s H scope (compEnvC scope cl A X.env) fp) ifs tt)
    (he : ∀ (s : Shared) (H : Hp) (A : Addr) (cl : List (Str × Addr)) (fp : List Addr), ED C (X.blk s H scope (compEnvC scope cl A X.env) fp) elt te) (hp : p.slots.all (fun j => (own.map (·.2)).contains j) = true := by rfl) (hs : ∀ x, foldedSetIterable iter X.env x = pure x := by intro _; rfl) :
    ED C X (.ListComp elt [⟨tg, iter, ifs, 0⟩] scope pos) (dLc p ti tt te (own.map (·.2))) :=
  ⟨(pe_lc hc hN hi.pi ok hg (fun a b c d e => (ht a b c d e).pts) (fun a b c d e => (he a b c d e).pe) hs).weak (lc_go fun j hj => by simpa using List.all_eq_true.mp hp j hj)⟩
/-- y = [..], y a local -/
theorem sd_setLc {p : Pat} {i : Nat} {y : Str} {py : Pos} {elt tg iter : Expr} {ifs : List Expr} {scope : Scope} {own : List (Str × Nat)} {pos spos : Pos} {ti : DI} {tt : DT} {te : DE} (hc : X.calm = true) (hN : X.N.Nodup) (hy : X.N[i]? = some y) (hyl : X.env.scope.names.lookup y = some .local)
    (hsw : swapsWith (.ListComp elt [⟨tg, iter, ifs, 0⟩] scope pos) (some (.Name y py)) spos.line X.env = pure true) (hi : IDd C X tg iter ti) (ok : BlkOk X.N X.env.scope scope own)
    (hg : ∀ (s : Shared) (H : Hp) (A : Addr) (cl : List (Str × Addr)) (fp : List Addr), PG (X.blk s H scope (compEnvC scope cl A X.env) fp) tg (gP C.K p)) (ht : ∀ (s : Shared) (H : Hp) (A : Addr) (cl : List (Str × Addr)) (fp : List Addr), TsD C (X.blk s H scope (compEnvC scope cl A X.env) fp) ifs tt)
    (he : ∀ (s : Shared) (H : Hp) (A : Addr) (cl : List (Str × Addr)) (fp : List Addr), ED C (X.blk s H scope (compEnvC scope cl A X.env) fp) elt te) (hp : p.slots.all (fun j => (own.map (·.2)).contains j) = true := by rfl) (hs : ∀ x, foldedSetIterable iter X.env x = pure x := by intro _; rfl) :
    SD C X (.Assign [.Name y py] (.ListComp elt [⟨tg, iter, ifs, 0⟩] scope pos) spos) (sSet i (dLc p ti tt te (own.map (·.2)))) :=
  ⟨(ps_setLc hc hN hy hyl hsw hi.pi ok hg (fun a b c d e => (ht a b c d e).pts) (fun a b c d e => (he a b c d e).pe) hs).weak fun D' σ H ⟨Γ, Ts, O, r, h, n, _⟩ =>
    lc_go (fun j hj => by simpa using List.all_eq_true.mp hp j hj) σ H _ ⟨Γ, Ts, _, r, h, fun v H' d hd r' => n _ H' _ hd (r'.set i)⟩⟩
/-! ### items, slices -/
def ixD : D → Int → Option D
  | .lst ds, i => atI ds i
  | .tup ds, i => atI ds i
  | .str z, i => if z.length ≤ sizeLine then (atI z.cps.toList i).map fun c => .str ⟨#[c]⟩ else none
  | _, _ => none
def fIx : F2 := fun x y k => ∃ i d, y = .int i ∧ ixD x i = some d ∧ k d
theorem o2_ix (hk : C.K = X.K) : Op2 C (rIx X.K) fIx := fun σ H Γ Ts x y d e k Q r ⟨i, z, h0, h1, hk'⟩ ans => by
  subst h0
  cases r.top1
  have t := r.drop.top
  cases t with
  | @lst a xs ds e q =>
    obtain ⟨v, e1, e2⟩ := q.at (show atI ds i = some z from h1)
    exact .inl ⟨a, xs, i, v, rfl, rfl, SqL.of (hid_full _ _ e), e1, ans _ _ _ hk' (r.drop.drop.push e2)⟩
  | @tup a xs ds e q =>
    obtain ⟨v, e1, e2⟩ := q.at (show atI ds i = some z from h1)
    exact .inr (.inl ⟨a, xs, i, v, rfl, rfl, SqT.of (hid_full _ _ e), e1, ans _ _ _ hk' (r.drop.drop.push e2)⟩)
  | str s =>
    replace h1 : (if s.length ≤ sizeLine then (atI s.cps.toList i).map fun c => D.str ⟨#[c]⟩ else none) = some z := h1
    by_cases hl : s.length ≤ sizeLine
    · rw [if_pos hl] at h1
      cases q : atI s.cps.toList i with
      | none =>
        rw [q] at h1
        cases h1
      | some c =>
        rw [q] at h1
        cases h1
        exact .inr (.inr ⟨s, i, c, rfl, rfl, hl, q, ans _ _ _ hk' (r.drop.drop.str _)⟩)
    · rw [if_neg hl] at h1
      cases h1
  | _ => cases h1
theorem ed_ix {a b : Expr} {ta tb : DE} {pos : Pos} (hk : C.K = X.K) (ha : ED C X a ta) (hb : ED C X b tb) (hs : PlainIx b) : ED C X (.Subscript a b pos) (d2 fIx ta tb) :=
  ⟨(pe_ix ix_seq ha.pe hb.pe hs).weak (op2_go (o2_ix hk))⟩
/-! ### built-ins by name -/
abbrev FB := List D → (D → Prop) → Prop
def CallC (C : Cq) (r : List V → Hp → VK → Prop) (f : FB) : Prop := ∀ (σ : L2.St) (H : Hp) (Γ : G) (Ts : List (V × B)) (vs : List V) (ds : List D) (k : D → Prop) (Q : VK), AllIn C σ H Γ Ts vs ds → f ds k → Ans C σ Γ Ts k Q → r vs H Q
def dB (f : FB) (t : DA) : DE := fun Γ k => t Γ fun ds => f ds k
theorem ed_blt {x : Str} {p pos : Pos} {e : Expr} {es : List Expr} {t : DA} {id : String} {r : List V → Hp → VK → Prop} {f : FB} (hr : CallR X (.builtin id) r) (hf : CallC C r f) (hg : Gl X x) (hm : X.mg x = none) (hv : bootBuiltins x = some (.builtin id)) (ha : AD C X (e :: es) t)
    (hn : x ≠ "__name__" := by decide) (hdb : (x == ("__debug__" : Str)) = false := by decide) (he : starEach (e :: es) X.env = (false, eval e X.env) :: starEach es X.env := by rfl) (hpl : (backTo pos (starEach es X.env)).any (·.1) = false := by rfl) :
    ED C X (.Call (.Name x p) (e :: es) [] pos) (dB f t) :=
  ⟨(pe_callB hr hg hm hv ha.pa hn hdb he hpl).weak fun σ H Q ⟨Γ, Ts, k, r, h, ans⟩ => ⟨Γ, Ts, _, r, h, fun vs H' ds hd q => hf σ H' Γ Ts vs ds k Q q hd ans⟩⟩
theorem ed_bty {x : Str} {p pos : Pos} {e : Expr} {es : List Expr} {t : DA} {T : String} {r : List V → Hp → VK → Prop} {f : FB} (hr : CallR X (.type T) r) (hf : CallC C r f) (hg : Gl X x) (hm : X.mg x = none) (hv : bootBuiltins x = some (.type T)) (ha : AD C X (e :: es) t)
    (hn : x ≠ "__name__" := by decide) (hdb : (x == ("__debug__" : Str)) = false := by decide) (he : starEach (e :: es) X.env = (false, eval e X.env) :: starEach es X.env := by rfl) (hpl : (backTo pos (starEach es X.env)).any (·.1) = false := by rfl) :
    ED C X (.Call (.Name x p) (e :: es) [] pos) (dB f t) :=
  ⟨(pe_callTy hr hg hm hv ha.pa hn hdb he hpl).weak fun σ H Q ⟨Γ, Ts, k, r, h, ans⟩ => ⟨Γ, Ts, _, r, h, fun vs H' ds hd q => hf σ H' Γ Ts vs ds k Q q hd ans⟩⟩
theorem AllIn.one {σ : L2.St} {H : Hp} {Γ : G} {Ts : List (V × B)} {vs : List V} {d : D} (q : AllIn C σ H Γ Ts vs [d]) : ∃ v, vs = [v] ∧ Rp C.K (hid (sh C (Ts ++ pairs σ Γ)) H) v d := by
  obtain ⟨_, q⟩ := q
  cases q with
  | cons q1 q2 =>
    cases q2
    exact ⟨_, rfl, q1⟩
/-- len -/
def lenD : D → Option Nat
  | .lst xs => some xs.length
  | .tup xs => some xs.length
  | .str z => if z.length ≤ sizeLine then some z.length else none
  | .emp => some 0
  | _ => none
def fLen : FB := fun ds k => ∃ d n, ds = [d] ∧ lenD d = some n ∧ k (.int (n : Nat))
theorem cc_len : CallC C (fun xs H Q => ∃ x n, xs = [x] ∧ LenV C.K x H n ∧ Q (.int n) H) fLen := fun σ H Γ Ts vs ds k Q q ⟨d, n, h0, h1, hk⟩ ans => by
  subst h0
  obtain ⟨v, rfl, t⟩ := q.one
  refine ⟨v, n, rfl, ?_, ans _ _ _ hk (q.1.int _)⟩
  cases t with
  | @lst a xs ds e q2 =>
    cases h1
    exact .inl ⟨xs, SqL.of (hid_full _ _ e), q2.length.symm⟩
  | @tup a xs ds e q2 =>
    cases h1
    exact .inr ⟨xs, SqT.of (hid_full _ _ e), q2.length.symm⟩
  | emp e =>
    cases h1
    exact .inr ⟨[], e.sq, rfl⟩
  | str z =>
    replace h1 : (if z.length ≤ sizeLine then some z.length else none) = some n := h1
    by_cases hl : z.length ≤ sizeLine
    · rw [if_pos hl] at h1
      cases h1
      exact ⟨hl, rfl⟩
    · rw [if_neg hl] at h1
      cases h1
  | _ => cases h1
theorem ints_of {K : PySem.W.Frag} {H : Hp} : ∀ {ns : List Int} {xs : List V}, RpA K H xs (ns.map D.int) → xs = ns.map V.int
  | [], _, .nil => rfl
  | n :: ns, _, .cons r t => by
    cases r
    rw [List.map_cons, ints_of t]
theorem bls_of {K : PySem.W.Frag} {H : Hp} : ∀ {ns : List Bool} {xs : List V}, RpA K H xs (ns.map D.bl) → xs = ns.map V.bl
  | [], _, .nil => rfl
  | n :: ns, _, .cons r t => by
    cases r
    rw [List.map_cons, bls_of t]
def fSum : FB := fun ds k => ∃ ns : List Int, ds = [.lst (ns.map D.int)] ∧ k (.int ns.sum)
theorem cc_sum : CallC C (rSum C.K) fSum := fun σ H Γ Ts vs ds k Q q ⟨ns, h0, hk⟩ ans => by
  subst h0
  obtain ⟨v, rfl, t⟩ := q.one
  cases t with
  | @lst a xs _ e q2 =>
    rw [ints_of q2] at e
    exact ⟨a, ns, rfl, SqL.of (hid_full _ _ e), ans _ _ _ hk (q.1.int _)⟩
def fAll : FB := fun ds k => ∃ bs : List Bool, ds = [.lst (bs.map D.bl)] ∧ k (.bl (bs.all id))
theorem cc_all : CallC C (rAll C.K) fAll := fun σ H Γ Ts vs ds k Q q ⟨ns, h0, hk⟩ ans => by
  subst h0
  obtain ⟨v, rfl, t⟩ := q.one
  cases t with
  | @lst a xs _ e q2 =>
    rw [bls_of q2] at e
    exact ⟨a, ns, rfl, SqL.of (hid_full _ _ e), ans _ _ _ hk (q.1.bl _)⟩
def fAny : FB := fun ds k => ∃ bs : List Bool, ds = [.lst (bs.map D.bl)] ∧ k (.bl (bs.any id))
theorem cc_any : CallC C (rAny C.K) fAny := fun σ H Γ Ts vs ds k Q q ⟨ns, h0, hk⟩ ans => by
  subst h0
  obtain ⟨v, rfl, t⟩ := q.one
  cases t with
  | @lst a xs _ e q2 =>
    rw [bls_of q2] at e
    exact ⟨a, ns, rfl, SqL.of (hid_full _ _ e), ans _ _ _ hk (q.1.bl _)⟩
/-- int(x) -/
def intD : D → Option Int
  | .int i => some i
  | .bl b => some (if b then 1 else 0)
  | _ => none
def fInt : FB := fun ds k => ∃ d i, ds = [d] ∧ intD d = some i ∧ k (.int i)
theorem cc_int : CallC C (fun xs H Q => (∃ i, xs = [.int i] ∧ Q (.int i) H) ∨ ∃ k, xs = [.bl k] ∧ Q (.int (if k then 1 else 0)) H) fInt := fun σ H Γ Ts vs ds k Q q ⟨d, i, h0, h1, hk⟩ ans => by
  subst h0
  obtain ⟨v, rfl, t⟩ := q.one
  cases t with
  | int j =>
    cases h1
    exact .inl ⟨_, rfl, ans _ _ _ hk (q.1.int _)⟩
  | bl b =>
    cases h1
    exact .inr ⟨_, rfl, ans _ _ _ hk (q.1.int _)⟩
  | _ => cases h1
/-- tuple(x), list(x) -/
def fTuple : FB := fun ds k => ∃ xs, (ds = [.lst xs] ∨ ds = [.tup xs]) ∧ k (.tup xs)
theorem cc_tuple : CallC C (fun xs H Q => ∃ p ys, xs = [.ref p] ∧ ((SqL C.K H p ys ∧ ∀ l, H l = none → Q (.ref l) (upd H l (.tup ys))) ∨ (SqT C.K H p ys ∧ Q (.ref p) H))) fTuple := fun σ H Γ Ts vs ds k Q q ⟨xs, h0, hk⟩ ans => by
  rcases h0 with h0 | h0
  · subst h0
    obtain ⟨v, rfl, t⟩ := q.one
    cases t with
    | @lst a ys _ e q2 => exact ⟨a, ys, rfl, .inl ⟨SqL.of (hid_full _ _ e), fun l hl => ans _ _ _ hk (q.1.newT hl q2)⟩⟩
  · subst h0
    obtain ⟨v, rfl, t⟩ := q.one
    cases t with
    | @tup a ys _ e q2 => exact ⟨a, ys, rfl, .inr ⟨SqT.of (hid_full _ _ e), ans _ _ _ hk (q.1.push (.tup e q2))⟩⟩
def fList : FB := fun ds k => ∃ xs, (ds = [.lst xs] ∨ ds = [.tup xs]) ∧ k (.lst xs)
theorem cc_list : CallC C (fun xs H Q => ∃ p ys, xs = [.ref p] ∧ (SqL C.K H p ys ∨ SqT C.K H p ys) ∧ ∀ l, H l = none → Q (.ref l) (upd H l (.lst ys))) fList := fun σ H Γ Ts vs ds k Q q ⟨xs, h0, hk⟩ ans => by
  rcases h0 with h0 | h0
  · subst h0
    obtain ⟨v, rfl, t⟩ := q.one
    cases t with
    | @lst a ys _ e q2 => exact ⟨a, ys, rfl, .inl (SqL.of (hid_full _ _ e)), fun l hl => ans _ _ _ hk (q.1.newL hl q2)⟩
  · subst h0
    obtain ⟨v, rfl, t⟩ := q.one
    cases t with
    | @tup a ys _ e q2 => exact ⟨a, ys, rfl, .inr (SqT.of (hid_full _ _ e)), fun l hl => ans _ _ _ hk (q.1.newL hl q2)⟩
end
end DL

namespace DL
open PySem PySem.Spec PyProof.Rows L2
/-! ### isinstance -/
def tyN : D → String
  | .non => "NoneType"
  | .bl _ => "bool"
  | .int _ => "int"
  | .str _ => "str"
  | .lst _ => "list"
  | .tup _ => "tuple"
  | .dK _ => "dict"
  | .dT _ => "dict"
  | .obj _ _ => ""
  | .slf _ _ _ => ""
  | .emp => "tuple"
def tyD : D → Value
  | .obj C _ => .ref C
  | .slf _ C _ => .ref C
  | d => .type (tyN d)
def isT (T : String) : D → Bool
  | .bl _ => T == "bool" || T == "int"
  | .int _ => T == "int"
  | .str _ => T == "str"
  | .lst _ => T == "list"
  | .tup _ => T == "tuple"
  | .emp => T == "tuple"
  | .dK _ => T == "dict"
  | .dT _ => T == "dict"
  | _ => false
/-- .. also a dict with tuple keys that is locked -/
inductive TyY (K : PySem.W.Frag) (H : Hp) : V → Value → Prop where
  | x {v : V} {t : Value} (h : TyX K H v t) : TyY K H v t
  | fT {a : Addr} {o : Obj} {kvs : List (List Key × V)} (e : H a = some (.frz o (.dT kvs))) : TyY K H (.ref a) (.type "dict")
theorem kit_ofY {X : Cx} {pins : List (Addr × Obj)} {σ : L2.St} {H : Hp} {s : Shared} {x : V} {u t : Value} (I : Inv X pins σ H s) (rx : RelV x u) (ty : TyY X.K H x t) : ∃ P : Heap → Prop, PySem.W.KitX X.K u t P ∧ P s.heap ∧ u ≠ .builtin "__main__.__loader__#opaque" := by
  cases ty with
  | x h => exact kit_of I rx h
  | @fT a ob kvs ea =>
    cases (show u = Value.ref a from rx)
    obtain ⟨_, _, _, _, _, o, es, ep, h1, h2, _⟩ := (show ObjOk X.prog X.w H s.heap a (.frz ob (.dT kvs)) from I.hok a _ ea)
    exact ⟨_, PySem.W.kitx_dict, ⟨o, h1, h2.1⟩, fun z => nomatch z⟩
def rIsiY (K : PySem.W.Frag) : List V → Hp → VK → Prop := fun xs H Q => ∃ (x c : V) (t u : Value) (b : Bool), xs = [x, c] ∧ ClsV c u ∧ TyY K H x t ∧ PySem.W.kitOne K t u = some b ∧ Q (.bl b) H
def rIsiTY (K : PySem.W.Frag) : List V → Hp → VK → Prop := fun xs H Q => ∃ (x : V) (tp : Addr) (cs : List V) (t : Value) (us : List Value) (b : Bool), xs = [x, .ref tp] ∧ H tp = some (.tup cs) ∧ Paired ClsV cs us ∧ TyY K H x t ∧ PySem.W.kitAny K t us = some b ∧ Q (.bl b) H
theorem call_isiY {X : Cx} : CallR X (.builtin "isinstance") (rIsiY X.K) := by
  intro pins s σ H xs us Q I r h
  obtain ⟨x, c, t, u, b, rfl, k, ty, e, q⟩ := h
  obtain ⟨u1, u2, rfl, r1, r2⟩ := vals2 r
  have e2 := k.eq r2
  subst e2
  obtain ⟨P, Z, p, hx⟩ := kit_ofY I r1 ty
  exact PySem.W.kia_one Z I.kIn p e hx fun tk => ⟨.bl b, H, I.tok tk, rfl, q⟩
theorem call_isiTY {X : Cx} : CallR X (.builtin "isinstance") (rIsiTY X.K) := by
  intro pins s σ H xs us Q I r h
  obtain ⟨x, tp, cs, t, ws, b, rfl, hT, k, ty, e, q⟩ := h
  obtain ⟨u1, u2, rfl, r1, r2⟩ := vals2 r
  cases (show u2 = Value.ref tp from r2)
  obtain ⟨P, Z, p, hx⟩ := kit_ofY I r1 ty
  obtain ⟨_, its, rv, o, h1, h2, n, h3⟩ := (show ObjOk X.prog X.w H s.heap tp (.tup cs) from I.hok tp _ hT)
  have e3 := ClsV.all k rv
  subst e3
  obtain ⟨oc, od, dt, sl⟩ := o
  simp only at h2 h3
  subst h2 h3
  exact PySem.W.kia_tup Z I.kIn p h1 e hx fun tk => ⟨.bl b, H, I.tok tk, rfl, q⟩
theorem tyX_of {K : PySem.W.Frag} {H : Hp} {v : V} {d : D} (r : Rp K H v d) : TyY K H v (tyD d) := by
  cases r with
  | non => exact .x (.base .non)
  | bl b => exact .x (.base (.bl b))
  | int i => exact .x (.base (.int i))
  | str x => exact .x (.base (.str x))
  | lst e _ => exact .x (.base (.lst e))
  | tup e _ => exact .x (.base (.tup e))
  | dK e _ _ => exact e.elim (fun e => .x (.base (.dK e))) fun ⟨_, e⟩ => .x (.fDict e)
  | dT e _ _ => exact e.elim (fun e => .x (.base (.dT e))) fun ⟨_, e⟩ => .fT e
  | obj e _ _ c => exact .x (.base (.ins e c.cl c.ha c.hn c.ht c.hm))
  | slf e _ _ c => exact .x (.base (.ins e c.cl c.ha c.hn c.ht c.hm))
  | emp e => obtain ⟨o, its, n, e1, e2, _⟩ := e; exact .x (.kTuple e1 e2)
theorem kitTab {T : String} (hT : T ∈ ["int", "bool", "str", "list", "tuple", "dict"]) : kitB "NoneType" T = some false ∧ kitB "bool" T = some (T == "bool" || T == "int") ∧ kitB "int" T = some (T == "int") ∧ kitB "str" T = some (T == "str") ∧
    kitB "list" T = some (T == "list") ∧ kitB "tuple" T = some (T == "tuple") ∧ kitB "dict" T = some (T == "dict") := by
  simp only [List.mem_cons, List.not_mem_nil, or_false] at hT
  rcases hT with rfl | rfl | rfl | rfl | rfl | rfl <;> decide +kernel
theorem kit_isT {K : PySem.W.Frag} {H : Hp} {v : V} {d : D} (r : Rp K H v d) {T : String} (hT : T ∈ ["int", "bool", "str", "list", "tuple", "dict"]) : PySem.W.kitOne K (tyD d) (.type T) = some (isT T d) := by
  obtain ⟨h1, h2, h3, h4, h5, h6, h7⟩ := kitTab hT
  cases r with
  | non => exact kit_ty h1
  | bl b => exact kit_ty h2
  | int i => exact kit_ty h3
  | str x => exact kit_ty h4
  | lst e _ => exact kit_ty h5
  | tup e _ => exact kit_ty h6
  | dK e _ _ => exact kit_ty h7
  | dT e _ _ => exact kit_ty h7
  | obj e _ _ c => exact c.no T hT
  | slf e _ _ c => exact c.no T hT
  | emp e => exact kit_ty h6
section
variable {C : Cq} {X : Cx}
def dIsi (T : String) (a : DE) : DE := fun Γ k => a Γ fun d => k (.bl (isT T d))
theorem ed_isi {y : Str} {T : String} {e : Expr} {a : DE} {p q pos : Pos} (hk : C.K = X.K) (ha : ED C X e a) (hg : Gl X "isinstance") (hm : X.mg "isinstance" = none) (hg2 : Gl X y) (hm2 : X.mg y = none) (hv : bootBuiltins y = some (.type T)) (hT : T ∈ ["int", "bool", "str", "list", "tuple", "dict"])
    (hn : y ≠ "__name__" := by decide) (hd : (y == ("__debug__" : Str)) = false := by decide)
    (he : starEach [e, .Name y q] X.env = (false, eval e X.env) :: starEach [.Name y q] X.env := by rfl) (he2 : starEach [.Name y q] X.env = (false, eval (.Name y q) X.env) :: starEach [] X.env := by rfl) (hpl : (backTo pos (starEach [.Name y q] X.env)).any (·.1) = false := by rfl) :
    ED C X (.Call (.Name "isinstance" p) [e, .Name y q] [] pos) (dIsi T a) :=
  ⟨(pe_callB call_isiY hg hm (by decide +kernel) (pa_cons ha.pe (pa_cons (pe_bltn (v := .ty T) hg2 hm2 hv rfl hn hd) pa_nil he2) he) (he := he) (hpl := hpl)).weak fun σ H Q ⟨Γ, Ts, k, r, h, ans⟩ => ⟨Γ, Ts, _, r, h, fun v H' d hd r' => by
    refine ⟨v, .ty T, tyD d, .type T, isT T d, rfl, .ty T, ?_, by rw [← hk]; exact kit_isT r'.top hT, ans _ _ _ hd (r'.drop.bl _)⟩
    rw [← hk]
    exact tyX_of r'.top1⟩⟩
/-! ### x in (a, b, ..), a written tuple; x in a tuple -/
def rInT (K : PySem.W.Frag) : R2 := fun x y H Q => ∃ d ds, Dp K H x d ∧ Dp K H y (.tuple ds) ∧ SeqAt.shaped d = true ∧ SeqAt.shaped (.tuple ds) = true ∧ Q (.bl (ds.any fun z => PyData.eqv z d)) H
def rNinT (K : PySem.W.Frag) : R2 := fun x y H Q => ∃ d ds, Dp K H x d ∧ Dp K H y (.tuple ds) ∧ SeqAt.shaped d = true ∧ SeqAt.shaped (.tuple ds) = true ∧ Q (.bl (!ds.any fun z => PyData.eqv z d)) H
theorem op_inT (hu : X.A.units + 65 < cLine) : OpR X (compareOp .In) (rInT X.K) := fun pins s σ H x y v u Q I rx ry ⟨d, ds, hd, he, sd, se, q⟩ => by
  obtain ⟨as, r1⟩ := Dp.reads I d x v hd rx
  obtain ⟨bs, r2⟩ := Dp.reads I (.tuple ds) y u he ry
  exact SeqAt.in_tuple_reads r2 r1 (SeqAt.canLay_of_shaped se) (SeqAt.canLay_of_shaped sd) (room_in_shaped sd hu) ⟨.bl _, H, I, rfl, q⟩
theorem op_ninT (hu : X.A.units + 65 < cLine) : OpR X (compareOp .NotIn) (rNinT X.K) := fun pins s σ H x y v u Q I rx ry ⟨d, ds, hd, he, sd, se, q⟩ => by
  obtain ⟨as, r1⟩ := Dp.reads I d x v hd rx
  obtain ⟨bs, r2⟩ := Dp.reads I (.tuple ds) y u he ry
  exact SeqAt.notIn_tuple_reads r2 r1 (SeqAt.canLay_of_shaped se) (SeqAt.canLay_of_shaped sd) (room_in_shaped sd hu) ⟨.bl _, H, I, rfl, q⟩
def fInT : F2 := fun x y k => ∃ ds, y = .tup ds ∧ Cmp x ∧ Cmp y ∧ k (.bl (ds.any fun z => PyData.eqv z.py x.py))
def fNinT : F2 := fun x y k => ∃ ds, y = .tup ds ∧ Cmp x ∧ Cmp y ∧ k (.bl (!ds.any fun z => PyData.eqv z.py x.py))
theorem o2_inT : Op2 C (rInT C.K) fInT := fun σ H Γ Ts x y d e k Q r ⟨ds, h0, h1, h2, hk⟩ ans => by
  subst h0
  have q := r.top1.dp h2.flat
  unfold D.py at q
  unfold Cmp D.py at h2
  refine ⟨d.py, pyA ds, r.drop.top1.dp h1.flat, q, h1, h2, ?_⟩
  rw [pyA_any]
  exact ans _ _ _ hk (r.drop.drop.bl _)
theorem o2_ninT : Op2 C (rNinT C.K) fNinT := fun σ H Γ Ts x y d e k Q r ⟨ds, h0, h1, h2, hk⟩ ans => by
  subst h0
  have q := r.top1.dp h2.flat
  unfold D.py at q
  unfold Cmp D.py at h2
  refine ⟨d.py, pyA ds, r.drop.top1.dp h1.flat, q, h1, h2, ?_⟩
  rw [pyA_any]
  exact ans _ _ _ hk (r.drop.drop.bl _)
/-! ### repr -/
def Shw (d : D) : Prop := d.bare = true ∧ d.py.showable = true ∧ d.py.depth ≤ 64 ∧ d.py.shown.length ≤ sizeLine
theorem readsAll_app {h : Heap} : ∀ {us : List Value} {ds : List PyData} {as : List Addr}, ReadsAll h us ds as → us.length = ds.length
  | _, _, _, .nil => rfl
  | _, _, _, .cons _ t => congrArg (· + 1) (readsAll_app t)
theorem reads_keys {h : Heap} {P : Program} {w : World} : ∀ {es : List DictEntry} {vs : List (Key × Value)}, Pairs (mixKind P w) es vs → ReadsAll h (es.map (·.key)) (vs.map fun p => keyP p.1) [] ∧ es.map (·.val) = vs.map (·.2)
  | _, _, .nil => ⟨.nil, rfl⟩
  | _, _, .cons (e := e) (kv := kv) h1 h2 t => by
    obtain ⟨q1, q2⟩ := reads_keys (h := h) t
    refine ⟨?_, by rw [List.map_cons, List.map_cons, q2, h2]⟩
    have hk : Reads h e.key (keyP kv.1) [] := by
      rcases keyIs_shape h1 with ⟨i, t, e1, e2⟩ | ⟨x, t, e1, e2⟩
      · rw [e1, e2]
        exact .int i t
      · rw [e1, e2]
        exact .str x t
    exact ReadsAll.cons (as := []) hk q1
theorem reads_key {h : Heap} {k : Key} {u : Value} (r : RelV (kV k) u) : Reads h u (keyP k) [] := by
  cases k with
  | inl i =>
    obtain ⟨t, rfl⟩ := (show ∃ t, u = Value.int i t from r)
    exact .int i t
  | inr x =>
    obtain ⟨t, rfl⟩ := (show ∃ t, u = Value.str x t from r)
    exact .str x t
theorem reads_kall {h : Heap} : ∀ {ks : List Key} {us : List Value}, Vals (ks.map kV) us → ReadsAll h us (ks.map keyP) []
  | [], _, .nil => .nil
  | _ :: _, _, .cons r t => ReadsAll.cons (as := []) (reads_key r) (reads_kall t)
theorem pyK_fst : ∀ kds : List (Key × D), (pyK kds).map (·.1) = kds.map fun p => keyP p.1
  | [] => by unfold pyK; rfl
  | (a, b) :: r => by unfold pyK; rw [List.map_cons, List.map_cons, pyK_fst r]
theorem pyK_snd : ∀ kds : List (Key × D), (pyK kds).map (·.2) = pyA (kds.map (·.2))
  | [] => by unfold pyK; rw [List.map_nil, List.map_nil]; unfold pyA; rfl
  | (a, b) :: r => by unfold pyK; rw [List.map_cons, List.map_cons]; unfold pyA; rw [pyK_snd r]
theorem pyT_fst : ∀ kds : List (List Key × D), (pyT kds).map (·.1) = kds.map fun p => .tuple (p.1.map keyP)
  | [] => by unfold pyT; rfl
  | (a, b) :: r => by unfold pyT; rw [List.map_cons, List.map_cons, pyT_fst r]
theorem pyT_snd : ∀ kds : List (List Key × D), (pyT kds).map (·.2) = pyA (kds.map (·.2))
  | [] => by unfold pyT; rw [List.map_nil, List.map_nil]; unfold pyA; rfl
  | (a, b) :: r => by unfold pyT; rw [List.map_cons, List.map_cons]; unfold pyA; rw [pyT_snd r]
theorem kv_vals {κ : Type} : ∀ {kvs : List (κ × V)} {vs : List (κ × Value)}, KV kvs vs → Vals (kvs.map (·.2)) (vs.map (·.2)) ∧ kvs.map (·.1) = vs.map (·.1)
  | _, _, .nil => ⟨.nil, rfl⟩
  | _, _, .cons r t => by
    obtain ⟨h1, h2⟩ := kv_vals t
    exact ⟨.cons r.2 h1, by rw [List.map_cons, List.map_cons, h2, r.1]⟩
theorem bareK_A : ∀ kds : List (Key × D), bareK kds = bareA (kds.map (·.2))
  | [] => by unfold bareK; rw [List.map_nil]; unfold bareA; rfl
  | (a, b) :: r => by unfold bareK; rw [List.map_cons]; unfold bareA; rw [bareK_A r]
theorem bareT_A : ∀ kds : List (List Key × D), bareT kds = bareA (kds.map (·.2))
  | [] => by unfold bareT; rw [List.map_nil]; unfold bareA; rfl
  | (a, b) :: r => by unfold bareT; rw [List.map_cons]; unfold bareA; rw [bareT_A r]
section
variable {pins : List (Addr × Obj)} {σ : L2.St} {H : Hp} {s : Shared} {K : PySem.W.Frag}
theorem notSys (I : Inv X pins σ H s) (hs : ∃ o, X.base.get? sysModules = some o) {a : Addr} {o : HO} (e : H a = some o) : a ≠ sysModules := fun z => by
  obtain ⟨u, hu⟩ := hs
  have := (I.bs _ _ hu).2
  rw [← z, e] at this
  cases this
mutual
theorem Rp.reads (I : Inv X pins σ H s) (hs : ∃ o, X.base.get? sysModules = some o) : ∀ {v : V} {d : D} {u : Value}, Rp K H v d → d.bare = true → RelV v u → ∃ as, Reads s.heap u d.py as ∧ sysModules ∉ as
  | _, _, _, .non, _, r => by
    cases r
    exact ⟨_, Reads.none, by simp⟩
  | _, _, _, .bl b, _, r => by
    cases r
    exact ⟨_, Reads.bool b, by simp⟩
  | _, _, _, .int i, _, r => by
    obtain ⟨t, rfl⟩ := r
    exact ⟨_, Reads.int i t, by simp⟩
  | _, _, _, .str x, _, r => by
    obtain ⟨t, rfl⟩ := r
    exact ⟨_, Reads.str x t, by simp⟩
  | _, .lst ds, _, .lst e ra, hb, r => by
    cases r
    obtain ⟨its, rv, ⟨o, n, ho, hc, _, hd⟩, _⟩ := I.list (SqL.of e)
    obtain ⟨as, hr, ns⟩ := RpA.reads I hs ra (by simpa [D.bare] using hb) rv
    have q := Reads.list ho hc hd hr
    refine ⟨_, by unfold D.py; exact q, ?_⟩
    exact fun z => (List.mem_cons.mp z).elim (fun z => notSys I hs e z.symm) ns
  | _, .tup ds, _, .tup e ra, hb, r => by
    cases r
    obtain ⟨its, rv, ⟨o, ho, hc, n, hd⟩, _⟩ := I.tuple (SqT.of e)
    obtain ⟨as, hr, ns⟩ := RpA.reads I hs ra (by simpa [D.bare] using hb) rv
    exact ⟨_, by unfold D.py; exact Reads.tuple ho hc hd hr, ns⟩
  | _, .dK kds, _, .dK (kvs := kvs) e k ra, hb, r => by
    cases r
    obtain ⟨_, _, vs, kv, o, es, ep, ho, hx, hd, _, hp, _⟩ := rd_of I.hok e
    obtain ⟨_, e⟩ := rd_some e
    obtain ⟨v1, v2⟩ := kv_vals kv
    obtain ⟨k1, k2⟩ := reads_keys (h := s.heap) hp
    have hb' : bareK kds = true := by simpa [D.bare] using hb
    rw [bareK_A] at hb'
    obtain ⟨bs, hr, ns⟩ := RpA.reads I hs ra hb' v1
    have e1 : (vs.map fun p => keyP p.1) = (pyK kds).map (·.1) := by
      rw [pyK_fst]
      have : (vs.map (·.1)).map keyP = (kds.map (·.1)).map keyP := by rw [← v2, k]
      simpa [List.map_map, Function.comp_def] using this
    rw [e1] at k1
    rw [← k2, ← pyK_snd] at hr
    have q := Reads.dict ho hx.1 hd k1 hr
    refine ⟨_, by unfold D.py; exact q, ?_⟩
    simp only [List.cons_append, List.nil_append]
    exact fun z => (List.mem_cons.mp z).elim (fun z => notSys I hs e z.symm) ns
  | _, .dT kds, _, .dT (kvs := kvs) e k ra, hb, r => by
    cases r
    obtain ⟨_, _, xs, pr, o, es, ep, ho, hx, hd, he, _⟩ := rd_of I.hok e
    obtain ⟨_, e⟩ := rd_some e
    have hb' : bareT kds = true := by simpa [D.bare] using hb
    rw [bareT_A] at hb'
    have main : ∀ {kvs : List (List Key × V)} {xs : List (List Key × Addr × Value)}, Paired (fun (p : List Key × V) (q : List Key × Addr × Value) => p.1 = q.1 ∧ H q.2.1 = some (.tup (p.1.map kV)) ∧ RelV p.2 q.2.2) kvs xs →
        ReadsAll s.heap ((xs.map (entryOfKey (tupleKind (mixKind X.prog X.w)))).map (·.key)) (kvs.map fun p => .tuple (p.1.map keyP)) [] ∧ Vals (kvs.map (·.2)) ((xs.map (entryOfKey (tupleKind (mixKind X.prog X.w)))).map (·.val)) := fun {kvs xs} pr => by
      induction pr with
      | nil => exact ⟨.nil, .nil⟩
      | @cons p q l1 l2 h t ih =>
        obtain ⟨h1, h2, h3⟩ := h
        obtain ⟨its, rv, ⟨o, ho, hc, n, hd⟩, _⟩ := I.tuple (SqT.of h2)
        have hk := Reads.tuple ho hc hd (reads_kall rv)
        exact ⟨ReadsAll.cons (as := []) hk ih.1, .cons h3 ih.2⟩
    obtain ⟨k1, v1⟩ := main pr
    rw [← he] at k1 v1
    obtain ⟨bs, hr, ns⟩ := RpA.reads I hs ra hb' v1
    have e1 : (kvs.map fun p => PyData.tuple (p.1.map keyP)) = (pyT kds).map (·.1) := by
      rw [pyT_fst]
      have : (kvs.map (·.1)).map (fun k => PyData.tuple (k.map keyP)) = (kds.map (·.1)).map (fun k => PyData.tuple (k.map keyP)) := by rw [k]
      simpa [List.map_map, Function.comp_def] using this
    rw [e1] at k1
    rw [← pyT_snd] at hr
    have q := Reads.dict ho hx.1 hd k1 hr
    refine ⟨_, by unfold D.py; exact q, ?_⟩
    simp only [List.cons_append, List.nil_append]
    exact fun z => (List.mem_cons.mp z).elim (fun z => notSys I hs e z.symm) ns
  | _, _, _, .obj _ _ _ _, hb, _ => by simp [D.bare] at hb
  | _, _, _, .slf _ _ _ _, hb, _ => by simp [D.bare] at hb
  | _, _, _, .emp _, hb, _ => by simp [D.bare] at hb
theorem RpA.reads (I : Inv X pins σ H s) (hs : ∃ o, X.base.get? sysModules = some o) : ∀ {vs : List V} {ds : List D} {us : List Value}, RpA K H vs ds → bareA ds = true → Vals vs us → ∃ as, ReadsAll s.heap us (pyA ds) as ∧ sysModules ∉ as
  | _, _, _, .nil, _, r => by
    cases r
    exact ⟨_, by unfold pyA; exact ReadsAll.nil, by simp⟩
  | _, _, _, .cons h1 h2, hb, r => by
    simp only [bareA, Bool.and_eq_true] at hb
    cases r with
    | cons r1 r2 =>
      obtain ⟨as, q1, n1⟩ := Rp.reads I hs h1 hb.1 r1
      obtain ⟨bs, q2, n2⟩ := RpA.reads I hs h2 hb.2 r2
      exact ⟨_, by unfold pyA; exact ReadsAll.cons q1 q2, fun z => (List.mem_append.mp z).elim n1 n2⟩
end
end
def rRepr (K : PySem.W.Frag) : List V → Hp → VK → Prop := fun xs H Q => ∃ v d, xs = [v] ∧ Rp K H v d ∧ Shw d ∧ Q (.str d.py.shown) H
theorem call_repr (hst : Still X.base X.A) (hu : X.A.units + 70 < cLine) : CallR X (.builtin "repr") (rRepr X.K) := fun pins s σ H xs us Q I r ⟨v, d, h0, h1, ⟨s0, s1, s3, s4⟩, q⟩ => by
  subst h0
  obtain ⟨u, rfl, rv⟩ := vals1 r
  have by_ref : ∀ a : Addr, v = .ref a → wpAny (model X.prog X.w) X.A (call (.builtin "repr") [u]) (EP X pins σ Q) X.xe s := fun a e => by
    subst e
    obtain ⟨as, rd, ns⟩ := Rp.reads I hst.2 h1 s0 rv
    cases rv
    exact PySem.repr_of_reads' rd s1 (fun _ => ns) hst.1 (by omega) (fun _ _ z => z) (fun h' u tk hk => ⟨.str _, H, I.kept hk, ⟨_, rfl⟩, q⟩) s4
  cases h1 with
  | non =>
    cases rv
    unfold D.py at q
    rw [PyData.shown_none] at q
    exact PySem.P.repr_of_none ⟨.str _, H, I.tok _, ⟨_, rfl⟩, q⟩
  | bl b =>
    cases rv
    unfold D.py at q
    rw [PyData.shown_bool] at q
    refine PySem.P.repr_of_bool ⟨.str _, H, I.tok _, ⟨_, rfl⟩, ?_⟩
    cases b <;> exact q
  | int i =>
    obtain ⟨t, rfl⟩ := rv
    unfold D.py at q s1
    rw [PyData.shown_int] at q
    exact PySem.P.repr_of_int (by simpa only [PyData.showable, decide_eq_true_eq] using s1) ⟨.str _, H, I.tok _, ⟨_, rfl⟩, q⟩
  | str x =>
    obtain ⟨t, rfl⟩ := rv
    unfold D.py at q s4
    rw [PyData.shown_str] at q s4
    exact PySem.P.repr_of_str ⟨.str _, H, I.tok _, ⟨_, rfl⟩, q⟩ s4
  | lst e ra => exact by_ref _ rfl
  | tup e ra => exact by_ref _ rfl
  | dK e k ra => exact by_ref _ rfl
  | dT e k ra => exact by_ref _ rfl
  | obj e k ra c => exact by_ref _ rfl
  | slf e k ra c => exact by_ref _ rfl
  | emp e => exact by_ref _ rfl
def fRepr : FB := fun ds k => ∃ d, ds = [d] ∧ Shw d ∧ k (.str d.py.shown)
theorem cc_repr : CallC C (rRepr C.K) fRepr := fun σ H Γ Ts vs ds k Q q ⟨d, h0, h1, hk⟩ ans => by
  subst h0
  obtain ⟨v, rfl, t⟩ := q.one
  exact ⟨v, d, rfl, t.mono hid_full, h1, ans _ _ _ hk (q.1.str _)⟩
end
end DL

namespace DL
open PySem PySem.Spec PyProof.Rows L2
/-! ### a def's body over data -/
def gD (N : List Str) (ds : List D) : G := ds.map (fun d => some (.dat d)) ++ List.replicate (N.length - ds.length) none
def gB (N : List Str) (ds : List D) : G := some .bag :: (ds.map (fun d => some (.dat d)) ++ List.replicate (N.length - (ds.length + 1)) none)
theorem pairs_nones : ∀ (n : Nat) (σ : L2.St), pairs σ (List.replicate n none) = []
  | 0, σ => by cases σ with
    | nil => rfl
    | cons x _ => cases x <;> rfl
  | n + 1, [] => rfl
  | n + 1, x :: σ => by
    have t := pairs_nones n σ
    cases x <;> exact t
theorem pairs_dat {K : PySem.W.Frag} {H : Hp} : ∀ {vs : List V} {ds : List D} (n : Nat) (σ : L2.St), RpA K H vs ds →
    (∀ p ∈ pairs (vs.map some ++ σ) (ds.map (fun d => some (B.dat d)) ++ List.replicate n none), ∃ d, p.2 = .dat d ∧ Rp K H p.1 d) ∧ owns (pairs (vs.map some ++ σ) (ds.map (fun d => some (B.dat d)) ++ List.replicate n none)) = []
  | [], _, n, σ, .nil => by
    show (∀ p ∈ pairs σ (List.replicate n none), _) ∧ owns (pairs σ (List.replicate n none)) = []
    rw [pairs_nones]
    exact ⟨fun p h => (by cases h), rfl⟩
  | v :: vs, d :: ds, n, σ, .cons r t => by
    obtain ⟨h1, h2⟩ := pairs_dat n σ t
    refine ⟨fun p hp => ?_, ?_⟩
    · rcases List.mem_cons.mp (show p ∈ (v, B.dat d) :: pairs (vs.map some ++ σ) (ds.map (fun d => some (B.dat d)) ++ List.replicate n none) from hp) with z | z
      · subst z
        exact ⟨d, rfl, r⟩
      · exact h1 p z
    · show owns ((v, B.dat d) :: pairs (vs.map some ++ σ) (ds.map (fun d => some (B.dat d)) ++ List.replicate n none)) = []
      rw [owns_dat]
      exact h2
theorem cov_dat : ∀ {vs : List V} {ds : List D} (n : Nat) (σ : L2.St), vs.length = ds.length → ∀ (i : Nat) (b : B), (ds.map (fun d => some (B.dat d)) ++ List.replicate n none)[i]? = some (some b) → ∃ v : V, (vs.map some ++ σ)[i]? = some (some v)
  | [], [], n, σ, _, i, b, h => by
    simp only [List.map_nil, List.nil_append] at h
    rw [List.getElem?_replicate] at h
    split at h <;> cases h
  | v :: vs, d :: ds, n, σ, hl, 0, b, h => ⟨v, rfl⟩
  | v :: vs, d :: ds, n, σ, hl, i + 1, b, h => cov_dat n σ (Nat.succ.inj hl) i b h
  | [], d :: ds, n, σ, hl, _, _, _ => by cases hl
  | v :: vs, [], n, σ, hl, _, _, _ => by cases hl
section
variable {P : Program} {w : World} {K : PySem.W.Frag} {mg : Str → Option Value} {base : Heap} {k : Nat} {f : Addr} {fd : FuncData} {ps : List Str} {x qual : Str} {st : Stmt} {N : List Str} {pre : List D → Prop} {post : List D → D → Prop}
theorem hid_same {S : Addr → Prop} {H : Hp} {L : List (V × B)} {C : Cq} (hS : ∀ a, S a → C.S0 a) : ∀ a o, hid (sh C L) H a = some o → hid S H a = some o := hid_mono (fun a z => .inl (hS a z)) fun _ _ _ e => e
theorem RS.startD {S : Addr → Prop} {H : Hp} {vs : List V} {ds : List D} (hd : ∀ a, S a → Thing (H a)) (r : RpA K (hid S H) vs ds) (hl : vs.length ≤ N.length) : RS ⟨K, none, 0, S, H⟩ (start N vs) H (gD N ds) [] := by
  obtain ⟨h1, h2⟩ := pairs_dat (N.length - ds.length) (List.replicate (N.length - vs.length) none) r
  refine ⟨⟨fun p hp => ?_, fun a ha => ?_, ?_, hd, fun b z => (by cases z), fun _ _ _ z => z⟩, ?_, cov_dat _ _ r.length⟩
  · obtain ⟨d, e1, e2⟩ := h1 p hp
    obtain ⟨v, b⟩ := p
    cases e1
    have es : sh ⟨K, none, 0, S, H⟩ ([] ++ pairs (start N vs) (gD N ds)) = S := by
      funext a
      unfold sh
      show (S a ∨ a ∈ owns (pairs (start N vs) (gD N ds))) = S a
      have h2' : owns (pairs (start N vs) (gD N ds)) = [] := h2
      rw [h2']
      simp
    rw [es]
    exact e2
  · have h2' : owns (pairs (start N vs) (gD N ds)) = [] := h2
    have ha' : a ∈ owns (pairs (start N vs) (gD N ds)) := ha
    rw [h2'] at ha'
    cases ha'
  · have h2' : owns (pairs (start N vs) (gD N ds)) = [] := h2
    show (owns (pairs (start N vs) (gD N ds))).Nodup
    rw [h2']
    exact List.nodup_nil
  · have := r.length
    unfold gD L2.start
    simp only [List.length_append, List.length_map, List.length_replicate]
    omega
theorem fnD (F : Fun K x qual st f fd) (S : FnScope N ps (defScope st)) (hlen : ∀ ds, pre ds → ds.length = ps.length)
    (hbody : ∀ (cdv : Value) (A : Around) (fr : List Env) (s : Shared) (H : Hp) (E : XK) (S0 : Addr → Prop), Still base (A.deeper (envOfC qual (defScope st) s.heap.objs.size f cdv)) → Room k (A.deeper (envOfC qual (defScope st) s.heap.objs.size f cdv)) →
      ∃ t, SSD ⟨K, none, 0, S0, H⟩ (cxOf CX0 P w K mg base N qual (defScope st) f cdv A fr s H E).nox (defBody st) t ∧ ∀ ds, pre ds → t { nx := fun _ => post ds .non, rt := post ds } (gD N ds)) : FnG P w K mg base CX0 (k + 1) f fd ps (spD K pre post) := by
  have hpl : ps.length ≤ N.length := by have := congrArg List.length S.pre; rw [List.length_take] at this; omega
  refine fnG_of F S (fun vs H Q E ⟨S0, ds, _, r, hp, _⟩ => by rw [r.length]; exact hlen ds hp) fun cdv A fr s H vs Q E hs hr ⟨S0, ds, hd, r, hp, κ⟩ => ?_
  obtain ⟨t, ht, hq⟩ := hbody cdv A fr s H E S0 hs hr
  refine ⟨_, ht.pss.nox, gD N ds, [], _, RS.startD hd r (by rw [r.length, hlen ds hp]; exact hpl), hq ds hp, fun σ' H' Γ' h' r' => ?_, fun v H' d σ' Γ' h' r' => ?_, fun _ _ _ z _ => z.elim, fun _ _ _ z _ => z.elim⟩
  · exact κ .non H' .non (fun a o e => r'.rel.same a o (fun z => by cases z) e) h' .non
  · exact κ v H' d (fun a o e => r'.rel.same a o (fun z => by cases z) e) h' (r'.top.mono (hid_same fun _ z => z))
theorem RS.startB {S : Addr → Prop} {H : Hp} {vs : List V} {ds : List D} {b l : Addr} (hb : S b) (hl1 : S l) (hB : Bag H b l) (hd : ∀ a, S a → Thing (H a)) (r : RpA K (hid S H) vs ds) (hl : vs.length + 1 ≤ N.length) :
    RS ⟨K, some b, l, S, H⟩ (start N (.ref b :: vs)) H (gB N ds) [] := by
  have e0 : start N (V.ref b :: vs) = some (V.ref b) :: (vs.map some ++ List.replicate (N.length - (vs.length + 1)) none) := rfl
  obtain ⟨h1, h2⟩ := pairs_dat (N.length - (ds.length + 1)) (List.replicate (N.length - (vs.length + 1)) none) r
  have ep : pairs (start N (V.ref b :: vs)) (gB N ds) = (.ref b, .bag) :: pairs (vs.map some ++ List.replicate (N.length - (vs.length + 1)) none) (ds.map (fun d => some (B.dat d)) ++ List.replicate (N.length - (ds.length + 1)) none) := rfl
  have ow : owns (pairs (start N (V.ref b :: vs)) (gB N ds)) = [] := by
    rw [ep, owns_bag]
    exact h2
  refine ⟨⟨fun p hp => ?_, fun a ha => ?_, ?_, hd, fun c z => ?_, fun _ _ _ z => z⟩, ?_, ?_⟩
  · rw [List.nil_append, ep] at hp
    rcases List.mem_cons.mp hp with z | z
    · subst z
      exact ⟨b, rfl, rfl⟩
    · obtain ⟨d, e1, e2⟩ := h1 p z
      obtain ⟨v, b'⟩ := p
      cases e1
      have es : sh ⟨K, some b, l, S, H⟩ ([] ++ pairs (start N (V.ref b :: vs)) (gB N ds)) = S := by
        funext a
        unfold sh
        rw [List.nil_append, ow]
        simp
      rw [es]
      exact e2
  · rw [List.nil_append, ow] at ha
    cases ha
  · rw [List.nil_append, ow]
    exact List.nodup_nil
  · cases z
    exact ⟨hb, hl1, hB⟩
  · have := r.length
    unfold gB
    rw [e0]
    simp only [List.length_append, List.length_map, List.length_replicate, List.length_cons]
    omega
  · intro i b' h
    rw [e0]
    cases i with
    | zero => exact ⟨_, rfl⟩
    | succ i => exact cov_dat _ _ r.length i b' h
theorem fnB (F : Fun K x qual st f fd) (S : FnScope N ps (defScope st)) (hlen : ∀ ds, pre ds → ds.length + 1 = ps.length)
    (hbody : ∀ (cdv : Value) (A : Around) (fr : List Env) (s : Shared) (H : Hp) (E : XK) (S0 : Addr → Prop) (b l : Addr), Still base (A.deeper (envOfC qual (defScope st) s.heap.objs.size f cdv)) → Room k (A.deeper (envOfC qual (defScope st) s.heap.objs.size f cdv)) →
      ∃ t, SSD ⟨K, some b, l, S0, H⟩ (cxOf CX0 P w K mg base N qual (defScope st) f cdv A fr s H E).nox (defBody st) t ∧ ∀ ds, pre ds → t { nx := fun _ => post ds .non, rt := post ds } (gB N ds)) : FnG P w K mg base CX0 (k + 1) f fd ps (spB K pre post) := by
  have hpl : ps.length ≤ N.length := by have := congrArg List.length S.pre; rw [List.length_take] at this; omega
  refine fnG_of F S (fun vs H Q E ⟨b, l, ws, S0, ds, e, _, _, _, _, r, hp, _⟩ => by rw [e, List.length_cons, r.length]; exact hlen ds hp) fun cdv A fr s H vs Q E hs hr ⟨b, l, ws, S0, ds, e, hb, hl, hB, hd, r, hp, κ⟩ => ?_
  subst e
  obtain ⟨t, ht, hq⟩ := hbody cdv A fr s H E S0 b l hs hr
  refine ⟨_, ht.pss.nox, gB N ds, [], _, RS.startB hb hl hB hd r (by rw [r.length, hlen ds hp]; exact hpl), hq ds hp, fun σ' H' Γ' h' r' => ?_, fun v H' d σ' Γ' h' r' => ?_, fun _ _ _ z _ => z.elim, fun _ _ _ z _ => z.elim⟩
  · exact κ .non H' .non ⟨fun a o n e => r'.rel.same a o (fun z => n (Option.some.inj z).symm) e, (r'.rel.bag b rfl).2.2⟩ h' .non
  · exact κ v H' d ⟨fun a o n e => r'.rel.same a o (fun z => n (Option.some.inj z).symm) e, (r'.rel.bag b rfl).2.2⟩ h' (r'.top.mono (hid_same fun _ z => z))
end
end DL

namespace DL
open PySem PySem.Spec PyProof.Rows L2
/-! ### the law's end -/
def spL (K : PySem.W.Frag) : Sp := fun vs H Q _ => ∃ (a : Addr) (ns : List Int), vs = [.ref a] ∧ SqL K H a (ns.map V.int) ∧ ns.length ≤ 63 ∧ ∀ H', Q (.bl true) H'
abbrev Good1 (h0 : Heap) (os0 : OsState) : Result → Shared → Prop := fun r s' => r = .ok (.ret (.bool true)) ∧ OldK h0 s'.heap ∧ s'.os = os0 ∧ AllBare s'.gens
section
variable {P : Program} {w : World} {K : PySem.W.Frag} {mg mb : Str → Option Value} {k : Nat} {fa a : Addr} {fd : FuncData} {x : Str} {s : Shared} {vs : List Value} {ns : List Int}
/-- what the call finds, where at most the script is tracked -/
theorem enterG (kin : K.In s.heap) (g1 : s.heap.Ns mainGlobals mg) (g2 : s.heap.Ns builtinsNs mb) (g3 : ∀ x : Str, x ≠ "__name__" → mb x = bootBuiltins x) (g4 : s.heap.NoLimit) (g5 : s.gens = #[])
    (g6 : ∃ mm, s.heap.Ns sysModules mm) (sc : s.heap.get? a = some { cls := .type "list", data := .seq vs.toArray }) (room : Room k callerA) (F : ∀ base : Heap, K.In base → base.Ns mainGlobals mg → FnG P w K mg base CX0 k fa fd [x] (spL K))
    (bind : ∀ (s : Shared) (u : Value), BindsTo s fd ⟨[u], []⟩ [(x, u)]) (hl : ns.length ≤ 63)
    (H : Hp) (h1 : ∀ b, H b = none ∨ (b = a ∧ ∃ o xs, H b = some (.frz o (.lst xs)))) (h2 : SqL K H a (ns.map V.int)) (h3 : HOk P w H s.heap) (h4 : H a ≠ none → K.lookup a = none) :
    codeAny (model P w) callerA (.call (.ref fa) ⟨[.ref a], []⟩) (Good1 s.heap s.os) s := by
  -- what is not the script stands in the base
  have only : ∀ {b : Addr} {o : Obj}, s.heap.get? b = some o → (b = a → K.lookup a = none → False) → (b = a → H a = none) → (hidT s.heap H).get? b = some o := fun {b o} e _ h => by
    rcases h1 b with q | ⟨q, _⟩
    · exact hidT_get e q
    · subst q
      exact hidT_get e (h rfl)
  have dicts : ∀ {b : Addr} {m : Str → Option Value}, s.heap.Ns b m → (hidT s.heap H).Ns b m := fun {b m} ⟨o, es, ep, e, d, rest⟩ => by
    refine ⟨o, es, ep, hidT_get e ?_, d, rest⟩
    rcases h1 b with q | ⟨q, _⟩
    · exact q
    · subst q
      rw [sc] at e
      cases e
      cases d
  have written : K.In (hidT s.heap H) := fun b o e => by
    refine hidT_get (kin b o e) ?_
    rcases h1 b with q | ⟨q, o2, xs, q2⟩
    · exact q
    · subst q
      have := h4 (by rw [q2]; exact fun z => by cases z)
      rw [this] at e
      cases e
  have env : Env0 P w K mg (hidT s.heap H) callerA [] s H :=
    { frames := rfl, mod := { kin := written, glob := dicts g1, blt := ⟨mb, dicts g2, g3⟩, nolimit := (by obtain ⟨mc, z1, z2⟩ := g4; exact ⟨mc, dicts z1, z2⟩) }, bs := fun b o e => of_hidT e, bsz := (by rw [hidT_size]; exact Nat.le_refl _),
      funs := trivial, frf := (by intro b z; cases z), hok := h3, bare := .of_eq g5 }
  have call := (F _ written (dicts g1)).run callerA [] s H ⟨[.ref a], []⟩ [.ref a] [.ref a] (fun v _ => v = .bl true) (fun _ _ _ => False) ⟨rfl, (by obtain ⟨mm, z⟩ := g6; obtain ⟨o, _, _, e, _⟩ := dicts z; exact ⟨o, e⟩)⟩ room env (bind s (.ref a)) (.cons rfl .nil) ⟨a, ns, rfl, h2, hl, fun _ => rfl⟩
  refine codeAny_mono call ?_
  intro r s' z
  rcases r with e | fl
  · exact False.elim z
  cases fl with
  | ret u =>
    obtain ⟨v, H', z1, z2, un, ok', rv, rfl⟩ := z
    obtain rfl : u = Value.bool true := rv
    refine ⟨rfl, OldK.of_keep ?_, z1, z2⟩
    intro b o e
    rcases h1 b with q | ⟨q, o2, xs, q2⟩
    · exact un.keep b o e q (by intro y; cases y) (by intro y; cases y)
    · have old := (h3 b _ q2).1
      rw [e] at old
      cases old
      exact (ok' b _ (un.frzs b _ _ q2)).1
  | _ => exact False.elim z
theorem callG (kin : K.In s.heap) (g1 : s.heap.Ns mainGlobals mg) (g2 : s.heap.Ns builtinsNs mb) (g3 : ∀ x : Str, x ≠ "__name__" → mb x = bootBuiltins x) (g4 : s.heap.NoLimit) (g5 : s.gens = #[])
    (g6 : ∃ mm, s.heap.Ns sysModules mm) (sc : s.heap.get? a = some { cls := .type "list", data := .seq vs.toArray }) (hi : IntsAre vs ns) (room : Room k callerA) (F : ∀ base : Heap, K.In base → base.Ns mainGlobals mg → FnG P w K mg base CX0 k fa fd [x] (spL K))
    (bind : ∀ (s : Shared) (u : Value), BindsTo s fd ⟨[u], []⟩ [(x, u)]) (hl : ns.length ≤ 63) : codeAny (model P w) callerA (.call (.ref fa) ⟨[.ref a], []⟩) (Good1 s.heap s.os) s := by
  have big : 63 ≤ sizeLine := by rw [sizeLine_eq]; decide
  have vi : Vals (ns.map V.int) vs := L2.vals_ints hi
  cases q : K.lookup a with
  | none =>
    let Hf : Hp := fun b => if b = a then some (.frz { cls := .type "list", data := .seq vs.toArray } (.lst (ns.map V.int))) else none
    have ha : Hf a = some (.frz { cls := .type "list", data := .seq vs.toArray } (.lst (ns.map V.int))) := if_pos rfl
    refine enterG kin g1 g2 g3 g4 g5 g6 sc room F bind hl Hf (fun b => ?_) (.inl (.inr ⟨_, ha⟩)) (fun b o e => ?_) fun _ => q
    · by_cases z : b = a
      · subst z
        exact .inr ⟨rfl, _, _, ha⟩
      · exact .inl (if_neg z)
    · by_cases z : b = a
      · subst z
        rw [ha] at e
        cases e
        exact ⟨sc, by rw [List.length_map]; omega, vs, _, vi, sc⟩
      · have := (if_neg z).symm.trans e
        cases this
  | some o =>
    have eo := kin a o q
    rw [sc] at eo
    cases eo
    refine enterG kin g1 g2 g3 g4 g5 g6 sc room F bind hl (fun _ => none) (fun _ => .inl rfl) (.inr ⟨_, vs.toArray, _, q, rfl, rfl, rfl, ?_, by simpa using vi⟩) (fun b o e => by cases e) fun z => absurd rfl z
    rw [List.size_toArray, hi.length]; omega
end
theorem walkG {l : PySem.W.OpenLaw} {k : Nat} {q : Program} {loose : List Str} {XP : (Str → Option Value) → Heap → Prop} {YP : World → Heap → Prop} {d : DefRec} {K : Params → PySem.W.Frag} {x : Str}
    (himp : importsNone q = true) (hn : l.most = some 63) (hdf : d.params.defaults = []) (room : Room k callerA) (hY : ∀ (w : World) (h : Heap), YP w h → (K w.params).In h)
    (F : ∀ (w : World) (mg : Str → Option Value) (fa : Addr) (h : Heap), (K w.params).In h → h.Ns mainGlobals mg → mg d.name = some (.ref fa) →
      ∃ fd : FuncData, (∀ (s : Shared) (u : Value), BindsTo s fd ⟨[u], []⟩ [(x, u)]) ∧ ∀ base : Heap, (K w.params).In base → base.Ns mainGlobals mg → FnG l.prog w (K w.params) mg base CX0 k fa fd [x] (spL (K w.params))) :
    PySem.W.WalkO q loose XP YP l.row.toRowW d [] (fun f vs => PySem.call f vs) := by
  refine Att.attach_call hn hdf ?_
  intro w s0 s1 mg mb fa o pm cd doc a vs ns G Y ho hd hcd hmg hobj hints hlen hg
  have KX := hY w _ Y
  obtain ⟨fd, hb, hF⟩ := F w mg fa _ KX G.T.g hmg
  exact callG KX G.T.g G.T.b G.T.builtins G.T.nolimit hg ⟨_, (G.T.seer himp).mods.choose_spec.1⟩ hobj hints room hF hb hlen
end DL

namespace DL
open PySem PySem.Spec PyProof.Rows L2
theorem hu64 {A : Around} {k : Nat} (r : Room k A) : A.units + 64 < cLine := r.units
theorem hu65 {A : Around} {k : Nat} (r : Room k A) : A.units + 65 < cLine := by have := r.un; omega
theorem hu70 {A : Around} {k : Nat} (r : Room k A) : A.units + 70 < cLine := by have := r.un; omega
section
variable {C : Cq} {X : Cx}
/-! ### module's constants -/
theorem ed_glob {x : Str} {v : V} {d : D} {pos : Pos} (hg : Gl X x) (hm : ∃ u, X.mg x = some u ∧ RelV v u) (hr : Rp C.K (fun _ => none) v d) (hd : (x == ("__debug__" : Str)) = false := by decide) : ED C X (.Name x pos) (dC d) := by
  obtain ⟨u, h1, h2⟩ := hm
  exact ⟨(pe_glob hg h1 h2 hd).weak fun σ H Q ⟨Γ, Ts, k, r, hk, ans⟩ => ans v H d hk (r.push (hr.mono fun _ _ z => by cases z))⟩
/-! ### tests -/
structure WD (C : Cq) (X : Cx) (e : Expr) (t : DT) : Prop where
  pw : PW X e (liftT C t)
theorem _root_.L2.PW.weak {X : Cx} {e : Expr} {t t' : TT} (h : PW X e t) (w : ∀ σ H Q, t' σ H Q → t σ H Q) : PW X e t' := ⟨fun wh pins s σ H Q I q => h.run wh pins s σ H Q I (w σ H Q q)⟩
def tA (t u : DT) : DT := fun Γ k => t Γ fun c => if c = true then u Γ k else k false
def tO (t u : DT) : DT := fun Γ k => t Γ fun c => if c = true then k true else u Γ k
def tN (t : DT) : DT := fun Γ k => t Γ fun c => k (!c)
theorem tw_and1 {a : Expr} {pos : Pos} {t : DT} (h : TD C X a t) : WD C X (.BoolOp .And [a] pos) t := ⟨pw_and1 h.pt⟩
theorem tw_or1 {a : Expr} {pos : Pos} {t : DT} (h : TD C X a t) : WD C X (.BoolOp .Or [a] pos) t := ⟨pw_or1 h.pt⟩
theorem tw_and {a b : Expr} {rest : List Expr} {pos : Pos} {t u : DT} (ha : TD C X a t) (hb : WD C X (.BoolOp .And (b :: rest) pos) u) : WD C X (.BoolOp .And (a :: b :: rest) pos) (tA t u) :=
  ⟨(pw_and ha.pt hb.pw).weak fun σ H Q ⟨Γ, Ts, k, r, h, z⟩ => ⟨Γ, Ts, _, r, h, fun c H1 h1 r1 => by
    cases c with
    | true => exact ⟨Γ, Ts, k, r1, h1, z⟩
    | false => exact z false H1 h1 r1⟩⟩
theorem tw_or {a b : Expr} {rest : List Expr} {pos : Pos} {t u : DT} (ha : TD C X a t) (hb : WD C X (.BoolOp .Or (b :: rest) pos) u) : WD C X (.BoolOp .Or (a :: b :: rest) pos) (tO t u) :=
  ⟨(pw_or ha.pt hb.pw).weak fun σ H Q ⟨Γ, Ts, k, r, h, z⟩ => ⟨Γ, Ts, _, r, h, fun c H1 h1 r1 => by
    cases c with
    | false => exact ⟨Γ, Ts, k, r1, h1, z⟩
    | true => exact z true H1 h1 r1⟩⟩
theorem td_w {a : Expr} {t : DT} (h : WD C X a t) : TD C X a t := ⟨h.pw.pt⟩
theorem td_not {a : Expr} {pos : Pos} {t : DT} (h : TD C X a t) : TD C X (.UnaryOp .Not a pos) (tN t) :=
  ⟨(pt_not h.pt).weak fun σ H Q ⟨Γ, Ts, k, r, h, z⟩ => ⟨Γ, Ts, _, r, h, fun c H1 h1 r1 => z _ H1 h1 r1⟩⟩
theorem td_bl {e : Expr} {a : DE} (h : ED C X e a) (he : ∀ whole, isTrue e X.env whole = (do let v ← whole; standAt e.pos; holding [v] (truthy v))) : TD C X e (dTest a) :=
  ⟨(pt_val h.pe he).weak fun σ H Q ⟨Γ, Ts, k, r, h, z⟩ => ⟨Γ, Ts, _, r, h, fun v H1 d ⟨b, e, hd⟩ r1 => by
    subst e
    cases r1.top1
    exact ⟨b, rfl, z b H1 hd r1.drop⟩⟩⟩
/-! ### -x, abs -/
def dU (g : Int → Int) (a : DE) : DE := fun Γ k => a Γ fun d => ∃ i, d = .int i ∧ k (.int (g i))
theorem ed_neg {e : Expr} {pos : Pos} {a : DE} (h : ED C X e a) : ED C X (.UnaryOp .USub e pos) (dU (fun i => -i) a) :=
  ⟨(pe_un un_neg h.pe).weak fun σ H Q ⟨Γ, Ts, k, r, h, ans⟩ => ⟨Γ, Ts, _, r, h, fun v H1 d ⟨i, e, hd⟩ r1 => by
    subst e
    cases r1.top1
    exact ⟨i, rfl, ans _ _ _ hd (r1.drop.int _)⟩⟩⟩
def fAbs : FB := fun ds k => ∃ i : Int, ds = [.int i] ∧ k (.int (if i < 0 then -i else i))
theorem cc_abs : CallC C (fun xs H Q => ∃ i, xs = [.int i] ∧ Q (.int (if i < 0 then -i else i)) H) fAbs := fun σ H Γ Ts vs ds k Q q ⟨i, h0, hk⟩ ans => by
  subst h0
  obtain ⟨v, rfl, t⟩ := q.one
  cases t
  exact ⟨i, rfl, ans _ _ _ hk (q.1.int _)⟩
/-! ### x + y: ints, texts, lists, tuples -/
def fAdd : F2 := fun x y k => (∃ i j, x = .int i ∧ y = .int j ∧ k (.int (i + j))) ∨ (∃ s t : Str, x = .str s ∧ y = .str t ∧ s.length + t.length ≤ sizeLine ∧ k (.str (s ++ t))) ∨
  (∃ xs ys, x = .lst xs ∧ y = .lst ys ∧ xs.length + ys.length ≤ sizeLine ∧ k (.lst (xs ++ ys))) ∨ ∃ xs ys, x = .tup xs ∧ y = .tup ys ∧ xs.length + ys.length ≤ sizeLine ∧ k (.tup (xs ++ ys))
theorem op_addD : OpR X (binaryOp .Add) (fun x y H Q => (rI0 (fun i j => .int (i + j)) x y H Q ∨ (∃ i j, x = .str i ∧ y = .str j ∧ i.length + j.length ≤ sizeLine ∧ Q (.str (i ++ j)) H)) ∨ (rCat x y H Q ∨ rCatA X.K x y H Q)) :=
  (op_add.or op_add_str).or (op_cat.or op_catA)
theorem RS.repA {σ : L2.St} {H : Hp} {Γ : G} {Ts : List (V × B)} {v : V} {d : D} (r : RS C σ H Γ ((v, .dat d) :: Ts)) : Rp C.K (hid (sh C (Ts ++ pairs σ Γ)) H) v d := r.top
theorem o2_addD (hk : C.K = X.K) : Op2 C (fun x y H Q => (rI0 (fun i j => .int (i + j)) x y H Q ∨ (∃ i j, x = .str i ∧ y = .str j ∧ i.length + j.length ≤ sizeLine ∧ Q (.str (i ++ j)) H)) ∨ (rCat x y H Q ∨ rCatA X.K x y H Q)) fAdd := fun σ H Γ Ts x y d e k Q r h ans => by
  have tx := r.drop.top
  have ty := (r.sub (Sub.swap.trans (Sub.refl _))).drop.top
  have r0 := r.drop.drop
  rcases h with ⟨i, j, rfl, rfl, hk⟩ | ⟨i, j, rfl, rfl, hl, hk⟩ | ⟨xs, ys, rfl, rfl, hl, hk⟩ | ⟨xs, ys, rfl, rfl, hl, hk⟩
  · cases tx
    cases ty
    exact .inl (.inl ⟨i, j, rfl, rfl, ans _ _ _ hk (r0.int _)⟩)
  · cases tx
    cases ty
    exact .inl (.inr ⟨i, j, rfl, rfl, hl, ans _ _ _ hk (r0.str _)⟩)
  · cases tx with
    | @lst a us _ e1 q1 =>
      cases ty with
      | @lst b ws _ e2 q2 =>
        exact .inr (.inl ⟨a, b, us, ws, rfl, rfl, hid_full _ _ e1, hid_full _ _ e2, by rw [q1.length, q2.length]; exact hl, fun p hp => ans _ _ _ hk (r0.newL hp (q1.append q2))⟩)
  · cases tx with
    | @tup a us _ e1 q1 =>
      cases ty with
      | @tup b ws _ e2 q2 =>
        refine .inr (.inr ⟨a, b, us, ws, rfl, rfl, SqT.of (hid_full _ _ e1), SqT.of (hid_full _ _ e2), by rw [q1.length, q2.length]; exact hl, fun z => ?_, fun _ z => ?_, fun _ _ p hp => ans _ _ _ hk (r0.newT hp (q1.append q2))⟩)
        · subst z
          cases q1
          exact ans _ _ _ hk (r0.push (.tup e2 q2))
        · subst z
          cases q2
          rw [List.append_nil] at hk
          exact ans _ _ _ hk (r0.push (.tup e1 q1))
/-! ### slices -/
abbrev DO := G → (Option Int → Prop) → Prop
def liftO (C : Cq) (t : DO) : TO := fun σ H Q => ∃ Γ Ts k, RS C σ H Γ Ts ∧ t Γ k ∧ ∀ o H', k o → RS C σ H' Γ Ts → Q o H'
structure OG (C : Cq) (X : Cx) (e : Option Expr) (t : DO) : Prop where
  po : PO X e (liftO C t)
theorem _root_.L2.PO.weak {X : Cx} {e : Option Expr} {t t' : TO} (h : PO X e t) (w : ∀ σ H Q, t' σ H Q → t σ H Q) : PO X e t' := ⟨fun pins s σ H Q I q => h.run pins s σ H Q I (w σ H Q q)⟩
def oN : DO := fun _ k => k none
def oS (a : DE) : DO := fun Γ k => a Γ fun d => ∃ i, d = .int i ∧ k (some i)
theorem og_none : OG C X none oN := ⟨po_none.weak fun σ H Q ⟨Γ, Ts, k, r, h, z⟩ => z none H h r⟩
theorem og_some {e : Expr} {a : DE} (h : ED C X e a) : OG C X (some e) (oS a) := ⟨(po_some h.pe).weak fun σ H Q ⟨Γ, Ts, k, r, h, z⟩ => ⟨Γ, Ts, _, r, h, fun v H1 d ⟨i, e, hd⟩ r1 => by
  subst e
  cases r1.top1
  exact ⟨i, rfl, z _ H1 hd r1.drop⟩⟩⟩
def cutD (xs : List D) (lo hi : Option Int) : List D := (xs.drop (HT.sIx xs.length 0 lo)).take (HT.sIx xs.length xs.length hi - HT.sIx xs.length 0 lo)
theorem RpA.cut {K : PySem.W.Frag} {H : Hp} {vs : List V} {ds : List D} (r : RpA K H vs ds) (lo hi : Option Int) : RpA K H (cutV vs lo hi) (cutD ds lo hi) := by
  unfold cutV cutD
  rw [r.length]
  exact (r.drop _).take _
def sliceD : D → Option Int → Option Int → Option D
  | .lst xs, lo, hi => some (.lst (cutD xs lo hi))
  | .tup xs, lo, hi => some (.tup (cutD xs lo hi))
  | .str z, lo, hi => if z.length ≤ sizeLine then some (.str (cutS z lo hi)) else none
  | _, _, _ => none
def dSl (a : DE) (l h : DO) : DE := fun Γ k => a Γ fun d => l Γ fun lo => h Γ fun hi => ∃ r, sliceD d lo hi = some r ∧ k r
theorem ed_slice {e : Expr} {lo hi : Option Expr} {a : DE} {l h : DO} {p2 pos : Pos} (hk : C.K = X.K) (he : ED C X e a) (hl : OG C X lo l) (hh : OG C X hi h) : ED C X (.Subscript e (.Slice lo hi none p2) pos) (dSl a l h) :=
  ⟨(pe_slice ((sl_list.or sl_tupA).or sl_str) he.pe hl.po hh.po).weak fun σ H Q ⟨Γ, Ts, k, r, h, ans⟩ => ⟨Γ, Ts, _, r, h, fun v H1 d h1 r1 => ⟨Γ, _, _, r1, h1, fun lo H2 h2 r2 => ⟨Γ, _, _, r2, h2, fun hi H3 ⟨z, hz, hd⟩ r3 => by
    have t := r3.top
    cases t with
    | @lst a xs ds e q =>
      cases hz
      exact .inl (.inl ⟨a, xs, rfl, SqL.of (hid_full _ _ e), fun p hp => ans _ _ _ hd (r3.drop.newL hp (q.cut lo hi))⟩)
    | @tup a xs ds e q =>
      cases hz
      refine .inl (.inr ⟨a, xs, rfl, SqT.of (hid_full _ _ e), fun w => ?_, fun _ p hp => ans _ _ _ hd (r3.drop.newT hp (q.cut lo hi))⟩)
      have e2 : cutD ds lo hi = ds := by
        rw [q.length] at w
        unfold cutD
        rw [w.1, w.2, List.drop_zero, Nat.sub_zero, List.take_length]
      rw [e2] at hd
      exact ans _ _ _ hd (r3.drop.push (.tup e q))
    | str s =>
      by_cases hl : s.length ≤ sizeLine
      · rw [show sliceD (.str s) lo hi = if s.length ≤ sizeLine then some (.str (cutS s lo hi)) else none from rfl, if_pos hl] at hz
        cases hz
        exact .inr ⟨s, rfl, hl, ans _ _ _ hd (r3.drop.str _)⟩
      · rw [show sliceD (.str s) lo hi = if s.length ≤ sizeLine then some (.str (cutS s lo hi)) else none from rfl, if_neg hl] at hz
        cases hz
    | _ => cases hz⟩⟩⟩⟩
/-! ### texts -/
def fInS : F2 := fun x y k => ∃ (c : Nat) (z : Str), x = .str ⟨#[c]⟩ ∧ y = .str z ∧ k (.bl (decide (c ∈ z.cps.toList)))
def fNinS : F2 := fun x y k => ∃ (c : Nat) (z : Str), x = .str ⟨#[c]⟩ ∧ y = .str z ∧ k (.bl (!decide (c ∈ z.cps.toList)))
theorem o2_inS : Op2 C (fun x y H Q => ∃ (c : Nat) (z : Str), x = .str ⟨#[c]⟩ ∧ y = .str z ∧ Q (.bl (decide (c ∈ z.cps.toList))) H) fInS := fun σ H Γ Ts x y d e k Q r ⟨c, z, h1, h2, hk⟩ ans => by
  subst h1 h2
  cases r.top1
  cases r.drop.top1
  exact ⟨c, z, rfl, rfl, ans _ _ _ hk (r.drop.drop.bl _)⟩
theorem o2_ninS : Op2 C (fun x y H Q => ∃ (c : Nat) (z : Str), x = .str ⟨#[c]⟩ ∧ y = .str z ∧ Q (.bl (!decide (c ∈ z.cps.toList))) H) fNinS := fun σ H Γ Ts x y d e k Q r ⟨c, z, h1, h2, hk⟩ ans => by
  subst h1 h2
  cases r.top1
  cases r.drop.top1
  exact ⟨c, z, rfl, rfl, ans _ _ _ hk (r.drop.drop.bl _)⟩
end
end DL

namespace DL
open PySem PySem.Spec PyProof.Rows L2
/-! ### data of a bounded size: it may be compared and shown -/
mutual
def D.lf : D → Bool
  | .non => true
  | .bl _ => true
  | .int i => decide (i.natAbs < 10 ^ 60)
  | .str x => x.cps.all (· < 0x110000)
  | .lst xs => lfA xs
  | .tup xs => lfA xs
  | .dK _ => false
  | .dT _ => false
  | .obj _ _ => false
  | .slf _ _ _ => false
  | .emp => false
def lfA : List D → Bool
  | [] => true
  | x :: xs => x.lf && lfA xs
end
mutual
def D.dp : D → Nat
  | .lst xs => dpA xs + 1
  | .tup xs => dpA xs + 1
  | .non => 0
  | .bl _ => 0
  | .int _ => 0
  | .str _ => 0
  | .dK _ => 0
  | .dT _ => 0
  | .obj _ _ => 0
  | .slf _ _ _ => 0
  | .emp => 0
def dpA : List D → Nat
  | [] => 0
  | x :: xs => max x.dp (dpA xs)
end
mutual
def D.bk : D → Nat
  | .str x => x.cps.size
  | .lst xs => bkA xs
  | .tup xs => bkA xs
  | .non => 0
  | .bl _ => 0
  | .int _ => 0
  | .dK _ => 0
  | .dT _ => 0
  | .obj _ _ => 0
  | .slf _ _ _ => 0
  | .emp => 0
def bkA : List D → Nat
  | [] => 0
  | x :: xs => x.bk + 1 + bkA xs
end
mutual
theorem D.lay : ∀ d : D, d.lf = true → d.py.canLay0 = true ∧ d.py.leavesShort 64 = true ∧ d.py.showable = true ∧ d.py.depth = d.dp ∧ d.py.bulk = d.bk
  | .non, _ => by simp [D.py, PyData.canLay0, PyData.leavesShort, PyData.showable, PyData.depth, D.dp, PyData.bulk, D.bk]
  | .bl b, _ => by simp [D.py, PyData.canLay0, PyData.leavesShort, PyData.showable, PyData.depth, D.dp, PyData.bulk, D.bk]
  | .int i, h => by
    have h1 : i.natAbs < 10 ^ 60 := by simpa [D.lf] using h
    refine ⟨by simp [D.py, PyData.canLay0], ?_, ?_, by simp [D.py, PyData.depth, D.dp], by simp [D.py, PyData.bulk, D.bk]⟩
    · have e := int_text_length_le10 (k := 60) (by decide) h1
      simp only [D.py, PyData.leavesShort, PyData.shown_int, decide_eq_true_eq]
      rw [PySem.ofString_length]
      omega
    · simp only [D.py, PyData.showable, decide_eq_true_eq]
      refine log2_small (Nat.lt_of_lt_of_le h1 ?_)
      have : (10 : Nat) ^ 60 ≤ 2 ^ 240 := by decide
      exact Nat.le_trans this (Nat.pow_le_pow_right (by decide) (by decide))
  | .str x, h => by
    have h0 : x.cps.all (· < 0x110000) = true := by simpa only [D.lf] using h
    have h1 : ∀ c ∈ x.cps, c < 0x110000 := fun c hc => of_decide_eq_true (Array.all_eq_true_iff_forall_mem.mp h0 c hc)
    refine ⟨?_, ?_, by simp [D.py, PyData.showable], by simp [D.py, PyData.depth, D.dp], by simp [D.py, PyData.bulk, D.bk]⟩
    · simp only [D.py, PyData.canLay0]
      exact h0
    · simp only [D.py, PyData.leavesShort, List.all_eq_true, decide_eq_true_eq]
      intro c hc
      exact Nat.lt_trans (h1 c (by simpa using hc)) (by decide)
  | .lst xs, h => by
    obtain ⟨h1, h2, h3, h4, h5⟩ := D.layA xs (by simpa [D.lf] using h)
    simp [D.py, PyData.canLay0, PyData.leavesShort, PyData.showable, PyData.depth, D.dp, PyData.bulk, D.bk, h1, h2, h3, h4, h5]
  | .tup xs, h => by
    obtain ⟨h1, h2, h3, h4, h5⟩ := D.layA xs (by simpa [D.lf] using h)
    simp [D.py, PyData.canLay0, PyData.leavesShort, PyData.showable, PyData.depth, D.dp, PyData.bulk, D.bk, h1, h2, h3, h4, h5]
  | .dK _, h => by simp [D.lf] at h
  | .dT _, h => by simp [D.lf] at h
  | .obj _ _, h => by simp [D.lf] at h
  | .slf _ _ _, h => by simp [D.lf] at h
  | .emp, h => by simp [D.lf] at h
theorem D.layA : ∀ xs : List D, lfA xs = true → PyData.canLayAll0 (pyA xs) = true ∧ PyData.leavesShortAll 64 (pyA xs) = true ∧ PyData.showableAll (pyA xs) = true ∧ PyData.depthAll (pyA xs) = dpA xs ∧ PyData.bulkAll (pyA xs) = bkA xs
  | [], _ => by simp [pyA, PyData.canLayAll0, PyData.leavesShortAll, PyData.showableAll, PyData.depthAll, dpA, PyData.bulkAll, bkA]
  | x :: xs, h => by
    have h' : x.lf = true ∧ lfA xs = true := by simpa [lfA] using h
    obtain ⟨h1, h2, h3, h4, h5⟩ := D.lay x h'.1
    obtain ⟨g1, g2, g3, g4, g5⟩ := D.layA xs h'.2
    simp [pyA, PyData.canLayAll0, PyData.leavesShortAll, PyData.showableAll, PyData.depthAll, dpA, PyData.bulkAll, bkA, h1, h2, h3, h4, h5, g1, g2, g3, g4, g5]
end
mutual
theorem bare_flat : ∀ d : D, d.flat = true → d.bare = true
  | .non, _ => rfl
  | .bl _, _ => rfl
  | .int _, _ => rfl
  | .str _, _ => rfl
  | .lst xs, h => by
    simp only [D.bare]
    exact bareA_flat xs (by simpa [D.flat] using h)
  | .tup xs, h => by
    simp only [D.bare]
    exact bareA_flat xs (by simpa [D.flat] using h)
  | .dK _, h => by simp [D.flat] at h
  | .dT _, h => by simp [D.flat] at h
  | .obj _ _, h => by simp [D.flat] at h
  | .slf _ _ _, h => by simp [D.flat] at h
  | .emp, h => by simp [D.flat] at h
theorem bareA_flat : ∀ xs : List D, flatA xs = true → bareA xs = true
  | [], _ => rfl
  | x :: xs, h => by
    simp only [flatA, Bool.and_eq_true] at h
    simp only [bareA, bare_flat x h.1, bareA_flat xs h.2, Bool.and_self]
end
def Fit (a b : Nat) (d : D) : Prop := d.lf = true ∧ d.dp ≤ a ∧ d.bk ≤ b
theorem Fit.mono {a b a' b' : Nat} {d : D} (h : Fit a b d) (h1 : a ≤ a') (h2 : b ≤ b') : Fit a' b' d := ⟨h.1, Nat.le_trans h.2.1 h1, Nat.le_trans h.2.2 h2⟩
theorem Fit.cmp {a b : Nat} {d : D} (h : Fit a b d) (ha : a ≤ 64) : Cmp d := by
  obtain ⟨h1, _, _, h4, _⟩ := D.lay d h.1
  unfold Cmp SeqAt.shaped
  rw [h1, h4]
  simpa using Nat.le_trans h.2.1 ha
theorem Fit.shw {a b : Nat} {d : D} (h : Fit a b d) (ha : a ≤ 64) (hb : b ≤ 250000) : Shw d := by
  obtain ⟨h1, h2, h3, h4, h5⟩ := D.lay d h.1
  refine ⟨bare_flat _ (D.flat_of _ h1), h3, by rw [h4]; exact Nat.le_trans h.2.1 ha, ?_⟩
  have e := PyData.shown_le_bulk 64 (by decide) _ h2
  rw [h5] at e
  have := h.2.2
  rw [sizeLine_eq]
  omega
theorem Fit.eq {a b : Nat} {d : D} (h : Fit a b d) : PyData.eqv d.py d.py = true := SeqAt.eqv_refl _ (D.lay d h.1).1
theorem FitA {a b : Nat} : ∀ {ds : List D}, (∀ d ∈ ds, Fit a b d) → lfA ds = true ∧ dpA ds ≤ a ∧ bkA ds ≤ ds.length * (b + 1)
  | [], _ => ⟨rfl, Nat.zero_le _, Nat.zero_le _⟩
  | d :: ds, h => by
    obtain ⟨h1, h2, h3⟩ := h d List.mem_cons_self
    obtain ⟨g1, g2, g3⟩ := FitA (ds := ds) fun e he => h e (List.mem_cons_of_mem _ he)
    refine ⟨by simp [lfA, h1, g1], by simp only [dpA]; omega, ?_⟩
    simp only [bkA, List.length_cons]
    have e : (ds.length + 1) * (b + 1) = ds.length * (b + 1) + (b + 1) := Nat.succ_mul _ _
    omega
theorem Fit.tup {a b : Nat} {ds : List D} (h : ∀ d ∈ ds, Fit a b d) : Fit (a + 1) (ds.length * (b + 1)) (.tup ds) := by
  obtain ⟨h1, h2, h3⟩ := FitA h
  exact ⟨by simpa [D.lf] using h1, by simp only [D.dp]; omega, by simpa [D.bk] using h3⟩
theorem Fit.lst {a b : Nat} {ds : List D} (h : ∀ d ∈ ds, Fit a b d) : Fit (a + 1) (ds.length * (b + 1)) (.lst ds) := by
  obtain ⟨h1, h2, h3⟩ := FitA h
  exact ⟨by simpa [D.lf] using h1, by simp only [D.dp]; omega, by simpa [D.bk] using h3⟩
theorem Fit.non {a b : Nat} : Fit a b .non := ⟨rfl, Nat.zero_le _, Nat.zero_le _⟩
theorem Fit.bl {a b : Nat} {x : Bool} : Fit a b (.bl x) := ⟨rfl, Nat.zero_le _, Nat.zero_le _⟩
theorem Fit.int {a b : Nat} {i : Int} (h : i.natAbs < 10 ^ 60) : Fit a b (.int i) := ⟨by simpa [D.lf] using h, Nat.zero_le _, Nat.zero_le _⟩
theorem Fit.str {a b : Nat} {x : Str} (h : x.cps.all (· < 0x110000) = true) (hl : x.cps.size ≤ b) : Fit a b (.str x) := ⟨by simpa [D.lf] using h, Nat.zero_le _, hl⟩
/-! ### the same with dicts: it may be shown -/
mutual
/-- no object in it; its texts are texts -/
def D.good : D → Bool
  | .non => true
  | .bl _ => true
  | .int _ => true
  | .str x => x.cps.all (· < 0x110000)
  | .lst xs => goodA xs
  | .tup xs => goodA xs
  | .dK kvs => bareK kvs
  | .dT kvs => bareT kvs
  | .obj _ _ => false
  | .slf _ _ _ => false
  | .emp => false
def goodA : List D → Bool
  | [] => true
  | x :: xs => x.good && goodA xs
end
mutual
theorem good_bare : ∀ d : D, d.good = true → d.bare = true
  | .non, _ => rfl
  | .bl _, _ => rfl
  | .int _, _ => rfl
  | .str _, _ => rfl
  | .lst xs, h => by
    simp only [D.good] at h
    simp only [D.bare, goodA_bare xs h]
  | .tup xs, h => by
    simp only [D.good] at h
    simp only [D.bare, goodA_bare xs h]
  | .dK _, h => by simpa only [D.good, D.bare] using h
  | .dT _, h => by simpa only [D.good, D.bare] using h
  | .obj _ _, h => by simp [D.good] at h
  | .slf _ _ _, h => by simp [D.good] at h
  | .emp, h => by simp [D.good] at h
theorem goodA_bare : ∀ xs : List D, goodA xs = true → bareA xs = true
  | [], _ => rfl
  | x :: xs, h => by
    simp only [goodA, Bool.and_eq_true] at h
    simp only [bareA, good_bare x h.1, goodA_bare xs h.2, Bool.and_self]
end
mutual
theorem lf_good : ∀ d : D, d.lf = true → d.good = true
  | .non, _ => rfl
  | .bl _, _ => rfl
  | .int _, _ => rfl
  | .str _, h => by simpa only [D.lf, D.good] using h
  | .lst xs, h => by
    simp only [D.lf] at h
    simp only [D.good, lfA_good xs h]
  | .tup xs, h => by
    simp only [D.lf] at h
    simp only [D.good, lfA_good xs h]
  | .dK _, h => by simp [D.lf] at h
  | .dT _, h => by simp [D.lf] at h
  | .obj _ _, h => by simp [D.lf] at h
  | .slf _ _ _, h => by simp [D.lf] at h
  | .emp, h => by simp [D.lf] at h
theorem lfA_good : ∀ xs : List D, lfA xs = true → goodA xs = true
  | [], _ => rfl
  | x :: xs, h => by
    simp only [lfA, Bool.and_eq_true] at h
    simp only [goodA, lf_good x h.1, lfA_good xs h.2, Bool.and_self]
end
mutual
theorem good_lay : ∀ d : D, d.good = true → d.flat = true → d.py.canLay0 = true
  | .non, _, _ => by simp [D.py, PyData.canLay0]
  | .bl _, _, _ => by simp [D.py, PyData.canLay0]
  | .int _, _, _ => by simp [D.py, PyData.canLay0]
  | .str _, h, _ => by
    simp only [D.good] at h
    simp only [D.py, PyData.canLay0]
    exact h
  | .lst xs, h, g => by
    simp only [D.good] at h
    simp only [D.flat] at g
    simp only [D.py, PyData.canLay0, goodA_lay xs h g]
  | .tup xs, h, g => by
    simp only [D.good] at h
    simp only [D.flat] at g
    simp only [D.py, PyData.canLay0, goodA_lay xs h g]
  | .dK _, _, h => by simp [D.flat] at h
  | .dT _, _, h => by simp [D.flat] at h
  | .obj _ _, _, h => by simp [D.flat] at h
  | .slf _ _ _, _, h => by simp [D.flat] at h
  | .emp, _, h => by simp [D.flat] at h
theorem goodA_lay : ∀ xs : List D, goodA xs = true → flatA xs = true → PyData.canLayAll0 (pyA xs) = true
  | [], _, _ => by simp [pyA, PyData.canLayAll0]
  | x :: xs, h, g => by
    simp only [goodA, Bool.and_eq_true] at h
    simp only [flatA, Bool.and_eq_true] at g
    simp only [pyA, PyData.canLayAll0, good_lay x h.1 g.1, goodA_lay xs h.2 g.2, Bool.and_self]
end
def SFit (a b : Nat) (d : D) : Prop := d.good = true ∧ d.py.leavesShort 64 = true ∧ d.py.showable = true ∧ d.py.depth ≤ a ∧ d.py.bulk ≤ b
def SFitA (a b : Nat) (ds : List D) : Prop := goodA ds = true ∧ PyData.leavesShortAll 64 (pyA ds) = true ∧ PyData.showableAll (pyA ds) = true ∧ PyData.depthAll (pyA ds) ≤ a ∧ PyData.bulkAll (pyA ds) ≤ b
theorem SFit.mono {a b a' b' : Nat} {d : D} (h : SFit a b d) (h1 : a ≤ a') (h2 : b ≤ b') : SFit a' b' d := ⟨h.1, h.2.1, h.2.2.1, Nat.le_trans h.2.2.2.1 h1, Nat.le_trans h.2.2.2.2 h2⟩
theorem SFitA.mono {a b a' b' : Nat} {d : List D} (h : SFitA a b d) (h1 : a ≤ a') (h2 : b ≤ b') : SFitA a' b' d := ⟨h.1, h.2.1, h.2.2.1, Nat.le_trans h.2.2.2.1 h1, Nat.le_trans h.2.2.2.2 h2⟩
theorem Fit.s {a b : Nat} {d : D} (h : Fit a b d) : SFit a b d := by
  obtain ⟨h1, h2, h3, h4, h5⟩ := D.lay d h.1
  exact ⟨lf_good _ h.1, h2, h3, by rw [h4]; exact h.2.1, by rw [h5]; exact h.2.2⟩
theorem SFit.shw {a b : Nat} {d : D} (h : SFit a b d) (ha : a ≤ 64) (hb : b ≤ 250000) : Shw d := by
  refine ⟨good_bare _ h.1, h.2.2.1, Nat.le_trans h.2.2.2.1 ha, ?_⟩
  have e := PyData.shown_le_bulk 64 (by decide) _ h.2.1
  have := h.2.2.2.2
  rw [sizeLine_eq]
  omega
theorem SFit.cmp {a b : Nat} {d : D} (h : SFit a b d) (ha : a ≤ 64) (hf : d.flat = true) : Cmp d := by
  unfold Cmp SeqAt.shaped
  rw [good_lay d h.1 hf]
  simpa using Nat.le_trans h.2.2.2.1 ha
theorem SFit.lst {a b : Nat} {ds : List D} : SFit (a + 1) b (.lst ds) ↔ SFitA a b ds := by
  unfold SFit SFitA
  simp only [D.good, D.py, PyData.leavesShort, PyData.showable, PyData.depth, PyData.bulk, Nat.add_le_add_iff_right]
theorem SFit.tup {a b : Nat} {ds : List D} : SFit (a + 1) b (.tup ds) ↔ SFitA a b ds := by
  unfold SFit SFitA
  simp only [D.good, D.py, PyData.leavesShort, PyData.showable, PyData.depth, PyData.bulk, Nat.add_le_add_iff_right]
theorem SFitA.nil {a b : Nat} : SFitA a b [] := ⟨rfl, rfl, rfl, Nat.zero_le _, Nat.zero_le _⟩
theorem SFitA.cons {a b c : Nat} {d : D} {ds : List D} (h : SFit a b d) (t : SFitA a c ds) : SFitA a (b + 1 + c) (d :: ds) := by
  obtain ⟨h1, h2, h3, h4, h5⟩ := h
  obtain ⟨t1, t2, t3, t4, t5⟩ := t
  refine ⟨by simp only [goodA, h1, t1, Bool.and_self], by simp only [pyA, PyData.leavesShortAll, h2, t2, Bool.and_self], by simp only [pyA, PyData.showableAll, h3, t3, Bool.and_self], ?_, ?_⟩
  · simp only [pyA, PyData.depthAll]
    omega
  · simp only [pyA, PyData.bulkAll]
    omega
theorem SFitA.uncons {a b : Nat} {d : D} {ds : List D} (h : SFitA a b (d :: ds)) : ∃ c e, c + 1 + e ≤ b ∧ SFit a c d ∧ SFitA a e ds := by
  obtain ⟨h1, h2, h3, h4, h5⟩ := h
  simp only [goodA, pyA, PyData.leavesShortAll, PyData.showableAll, Bool.and_eq_true, PyData.depthAll, PyData.bulkAll] at h1 h2 h3 h4 h5
  exact ⟨d.py.bulk, PyData.bulkAll (pyA ds), by omega, ⟨h1.1, h2.1, h3.1, by omega, Nat.le_refl _⟩, ⟨h1.2, h2.2, h3.2, by omega, Nat.le_refl _⟩⟩
theorem SFitA.append {a b c : Nat} : ∀ {ds es : List D} , SFitA a b ds → SFitA a c es → SFitA a (b + c) (ds ++ es)
  | [], es, _, t => t.mono (Nat.le_refl _) (by omega)
  | d :: ds, es, h, t => by
    obtain ⟨x, y, hl, h1, h2⟩ := h.uncons
    exact (SFitA.cons h1 (h2.append t)).mono (Nat.le_refl _) (by omega)
theorem SFitA.take {a b : Nat} : ∀ {ds : List D} (n : Nat), SFitA a b ds → SFitA a b (ds.take n)
  | [], n, h => by rw [List.take_nil]; exact h
  | d :: ds, 0, h => SFitA.nil
  | d :: ds, n + 1, h => by
    obtain ⟨x, y, hl, h1, h2⟩ := h.uncons
    exact (SFitA.cons h1 (h2.take n)).mono (Nat.le_refl _) hl
theorem SFitA.drop {a b : Nat} : ∀ {ds : List D} (n : Nat), SFitA a b ds → SFitA a b (ds.drop n)
  | [], n, h => by rw [List.drop_nil]; exact h
  | d :: ds, 0, h => h
  | d :: ds, n + 1, h => by
    obtain ⟨x, y, hl, h1, h2⟩ := h.uncons
    exact (h2.drop n).mono (Nat.le_refl _) (by omega)
theorem SFitA.mem {a b : Nat} : ∀ {ds : List D} {d : D}, SFitA a b ds → d ∈ ds → ∃ c, c + 1 ≤ b ∧ SFit a c d
  | x :: ds, d, h, m => by
    obtain ⟨c, e, hl, h1, h2⟩ := h.uncons
    rcases List.mem_cons.mp m with rfl | m
    · exact ⟨c, by omega, h1⟩
    · obtain ⟨c2, h3, h4⟩ := h2.mem m
      exact ⟨c2, by omega, h4⟩
theorem SFitA.all {a b : Nat} : ∀ {ds : List D}, (∀ d ∈ ds, SFit a b d) → SFitA a (ds.length * (b + 1)) ds
  | [], _ => SFitA.nil
  | d :: ds, h => by
    refine (SFitA.cons (h d List.mem_cons_self) (SFitA.all fun e he => h e (List.mem_cons_of_mem _ he))).mono (Nat.le_refl _) ?_
    have e : (ds.length + 1) * (b + 1) = ds.length * (b + 1) + (b + 1) := Nat.succ_mul _ _
    simp only [List.length_cons]
    omega
theorem SFit.non {a b : Nat} : SFit a b .non := Fit.non.s
theorem SFit.bl {a b : Nat} {x : Bool} : SFit a b (.bl x) := Fit.bl.s
theorem SFit.int {a b : Nat} {i : Int} (h : i.natAbs < 10 ^ 60) : SFit a b (.int i) := (Fit.int h).s
theorem SFit.str {a b : Nat} {x : Str} (h : x.cps.all (· < 0x110000) = true) (hl : x.cps.size ≤ b) : SFit a b (.str x) := (Fit.str h hl).s
/-! ### loops by a word -/
theorem loopK_of {p : Pat} {tb : DS} {O : Out} (Inv : G → Prop) : ∀ {ds : List D} {Γ : G},
    (∀ d ∈ ds, ∀ (Γ : G) (O' : Out), Inv Γ → (∀ Γ2, Inv Γ2 → O'.nx Γ2) → (∀ Γ2, Inv Γ2 → O'.ct Γ2) → O'.rt = O.rt → O'.bk = O.nx → ∃ Γ', setP p d Γ = some Γ' ∧ tb O' Γ') → Inv Γ → (∀ Γ2, Inv Γ2 → O.nx Γ2) → loopK p tb O ds Γ
  | [], Γ, _, h, k => k Γ h
  | d :: ds, Γ, hb, h, k => by
    have t := fun Γ2 (h2 : Inv Γ2) => loopK_of Inv (ds := ds) (Γ := Γ2) (fun e he => hb e (List.mem_cons_of_mem _ he)) h2 k
    exact hb d List.mem_cons_self Γ _ h t t rfl rfl
/-- Inv by the number of turns gone -/
theorem loopK_at {p : Pat} {tb : DS} {O : Out} (Inv : Nat → G → Prop) : ∀ {ds : List D} {Γ : G} (n : Nat),
    (∀ (i : Nat) (d : D), ds[i]? = some d → ∀ (Γ : G) (O' : Out), Inv (n + i) Γ → (∀ Γ2, Inv (n + i + 1) Γ2 → O'.nx Γ2) → (∀ Γ2, Inv (n + i + 1) Γ2 → O'.ct Γ2) → O'.rt = O.rt → O'.bk = O.nx → ∃ Γ', setP p d Γ = some Γ' ∧ tb O' Γ') →
    Inv n Γ → (∀ Γ2, Inv (n + ds.length) Γ2 → O.nx Γ2) → loopK p tb O ds Γ
  | [], Γ, n, _, h, k => k Γ h
  | d :: ds, Γ, n, hb, h, k => by
    have t := fun Γ2 (h2 : Inv (n + 1) Γ2) => loopK_at Inv (ds := ds) (Γ := Γ2) (n + 1) (fun i e he Γ3 O' h3 k1 k2 e1 e2 => hb (i + 1) e he Γ3 O' (by rw [show n + (i + 1) = n + 1 + i by omega]; exact h3)
      (fun Γ4 h4 => k1 Γ4 (by rw [show n + 1 + i + 1 = n + (i + 1) + 1 by omega]; exact h4)) (fun Γ4 h4 => k2 Γ4 (by rw [show n + 1 + i + 1 = n + (i + 1) + 1 by omega]; exact h4)) e1 e2) h2
      (fun Γ4 h4 => k Γ4 (by rw [List.length_cons, show n + (ds.length + 1) = n + 1 + ds.length by omega]; exact h4))
    exact hb 0 d rfl Γ _ h t t rfl rfl
/-- what each item of a comprehension's source gives: none or one -/
inductive Gives (step : D → List D → Prop) : List D → List D → Prop
  | nil : Gives step [] []
  | cons {d : D} {ds out outs : List D} : step d out → Gives step ds outs → Gives step (d :: ds) (out ++ outs)
theorem lcK_of {p : Pat} {tt : DT} {te : DE} {Γ0 : G} {k : D → Prop} (step : D → List D → Prop) : ∀ {ds acc : List D},
    (∀ d ∈ ds, ∀ kk : List D → Prop, (∀ out, step d out → kk out) → ∃ Γ', setP p d Γ0 = some Γ' ∧ tt Γ' fun b => if b = true then te Γ' fun y => kk [y] else kk []) →
    (∀ outs, Gives step ds outs → k (.lst (acc ++ outs))) → lcK p tt te Γ0 k ds acc
  | [], acc, _, hk => by
    have h := hk [] .nil
    rw [List.append_nil] at h
    exact h
  | d :: ds, acc, hb, hk => by
    have h := hb d List.mem_cons_self (fun out => lcK p tt te Γ0 k ds (acc ++ out)) fun out ho =>
      lcK_of step (fun e he => hb e (List.mem_cons_of_mem _ he)) fun outs h => by
        rw [List.append_assoc]
        exact hk _ (.cons ho h)
    simp only [List.append_nil] at h
    exact h
theorem Gives.map {f : D → List D} : ∀ {ds outs : List D}, Gives (fun d out => out = f d) ds outs → outs = (ds.map f).flatten
  | _, _, .nil => rfl
  | _, _, .cons h t => by
    subst h
    rw [t.map]
    rfl
theorem Gives.all {step : D → List D → Prop} {R : D → Prop} (h : ∀ d out, step d out → ∀ y ∈ out, R y) : ∀ {ds outs : List D}, Gives step ds outs → ∀ y ∈ outs, R y
  | _, _, .nil => fun y hy => (by cases hy)
  | _, _, .cons s t => fun y hy => by
    rcases List.mem_append.mp hy with z | z
    · exact h _ _ s y z
    · exact t.all h y z
theorem Gives.allFrom {step : D → List D → Prop} {R : D → Prop} : ∀ {ds outs : List D}, Gives step ds outs → (∀ d ∈ ds, ∀ out, step d out → ∀ y ∈ out, R y) → ∀ y ∈ outs, R y
  | _, _, .nil, _ => fun y hy => (by cases hy)
  | _, _, .cons s t, h => fun y hy => by
    rcases List.mem_append.mp hy with z | z
    · exact h _ List.mem_cons_self _ s y z
    · exact t.allFrom (fun d hd => h d (List.mem_cons_of_mem _ hd)) y z
theorem Gives.len {step : D → List D → Prop} (h : ∀ d out, step d out → out.length ≤ 1) : ∀ {ds outs : List D}, Gives step ds outs → outs.length ≤ ds.length
  | _, _, .nil => Nat.le_refl _
  | _, _, .cons s t => by
    have h1 := h _ _ s
    have h2 := t.len h
    rw [List.length_append, List.length_cons]
    omega
/-- an item at a place in bounds -/
theorem ix_in {α : Type} {xs : List α} {i : Int} (h0 : 0 ≤ i) (h1 : i < xs.length) : ∃ x, atI xs i = some x ∧ x ∈ xs := by
  obtain ⟨n, rfl⟩ := Int.eq_ofNat_of_zero_le h0
  have hn : n < xs.length := by omega
  exact ⟨xs[n], atI_nat (List.getElem?_eq_getElem hn), List.getElem_mem hn⟩
end DL

namespace DL
open PySem PySem.Spec PyProof.Rows L2
section
variable {X : Cx} {C : Cq}
/-- xs[i] by values, i from 0 -/
theorem get_list : PGet X (fun x y H Q => ∃ p xs i v, x = .ref p ∧ y = .int i ∧ H p = some (.lst xs) ∧ 0 ≤ i ∧ xs[i.toNat]? = some v ∧ Q v H) := fun pins s σ H o i ov iv Q I ro ri ⟨p, xs, j, v, h1, h2, hp, h0, hv, q⟩ => by
  subst h1 h2
  cases ro
  obtain ⟨t, rfl⟩ := ri
  obtain ⟨its, r, pl, hz⟩ := I.list (SqL.of hp)
  obtain ⟨w, ew, rw'⟩ := r.get hv
  have hl := r.length
  have hn := line63
  have hj : j.toNat < xs.length := (List.getElem?_eq_some_iff.mp hv).1
  exact wpAny_getItem_list pl.isList h0 (by omega) (by simpa using ew) ⟨v, H, I, rw', q⟩
/-- a cut behind a statement: Mid holds there, however it is reached -/
def sCut (t u : DS) : DS := fun O Γ => ∃ Mid : G → Prop, t { O with nx := Mid } Γ ∧ ∀ Γ', Mid Γ' → u O Γ'
theorem ss_cut {st : Stmt} {rest : List Stmt} {t u : DS} (h1 : SD C X st t) (h2 : SSD C X rest u) : SSD C X (st :: rest) (sCut t u) :=
  ⟨(C8.pss_cut h1.ps h2.pss).weak fun D' σ H ⟨Γ, Ts, O, r, ⟨Mid, hm, hu⟩, n, q, b, c⟩ => ⟨fun σ' H' => ∃ Γ', Mid Γ' ∧ RS C σ' H' Γ' Ts, ⟨Γ, Ts, { O with nx := Mid }, r, hm, fun σ' H' Γ' h' r' => ⟨Γ', h', r'⟩, q, b, c⟩,
    fun σ' H' ⟨Γ', h', r'⟩ => ⟨Γ', Ts, O, r', hu Γ' h', n, q, b, c⟩⟩⟩
end
/-- what a draw promises -/
def preT : List D → Prop := fun ds => ∃ n : Int, ds = [.int n] ∧ 0 < n ∧ n < 1000000000
def postT : List D → D → Prop := fun ds d => ∃ n r : Int, ds = [.int n] ∧ d = .int r ∧ 0 ≤ r ∧ r < n
/-- what the bag's making promises -/
def spBag (K : PySem.W.Frag) : Sp := fun vs H Q _ => ∃ (a : Addr) (ns : List Int), vs = [.ref a] ∧ SqL K H a (ns.map V.int) ∧ ns.length ≤ 63 ∧ ∀ (b l : Addr) (H' : Hp), (∀ a o, H a = some o → H' a = some o) → H b = none → H l = none → Bag H' b l → Q (.ref b) H'
/-- the law's own body: first the bag, then what is read over data -/
theorem lawD {P : Program} {w : World} {K : PySem.W.Frag} {mg : Str → Option Value} {base : Heap} {k : Nat} {f : Addr} {fd : FuncData} {x qual p : Str} {st : Stmt} {N : List Str} (F : Fun K x qual st f fd) (S : FnScope N [p] (defScope st)) (hN : 2 ≤ N.length)
    (hbody : ∀ (cdv : Value) (A : Around) (fr : List Env) (s : Shared) (H : Hp) (E : XK) (S0 : Addr → Prop) (b l : Addr) (H1 : Hp), Still base (A.deeper (envOfC qual (defScope st) s.heap.objs.size f cdv)) → Room k (A.deeper (envOfC qual (defScope st) s.heap.objs.size f cdv)) →
      ∃ st1 rest t, defBody st = st1 :: rest ∧ PS (cxOf CX0 P w K mg base N qual (defScope st) f cdv A fr s H E).nox st1 (tAsg (tCall (spBag K) [] E0 (tCons (tVar 0) tNil)) (gName 1)) ∧
        SSD ⟨K, some b, l, S0, H1⟩ (cxOf CX0 P w K mg base N qual (defScope st) f cdv A fr s H E).nox rest t ∧ t { nx := fun _ => False, rt := fun d => d = .bl true } (none :: some .bag :: List.replicate (N.length - 2) none)) :
    FnG P w K mg base CX0 (k + 1) f fd [p] (spL K) := by
  refine fnG_of F S (fun vs H Q E ⟨a, ns, e, _⟩ => by rw [e]; rfl) fun cdv A fr s H vs Q E hs hr ⟨a, ns, e, hS, hl, κ⟩ => ?_
  subst e
  -- the reading of the rest asks for one heap and one bag: they are chosen behind the call
  have main : ∀ (b l : Addr) (H1 : Hp), (∀ x o, H x = some o → H1 x = some o) → Bag H1 b l → ∃ st1 rest t, defBody st = st1 :: rest ∧ PS (cxOf CX0 P w K mg base N qual (defScope st) f cdv A fr s H E).nox st1 (tAsg (tCall (spBag K) [] E0 (tCons (tVar 0) tNil)) (gName 1)) ∧
      PSs (cxOf CX0 P w K mg base N qual (defScope st) f cdv A fr s H E).nox rest t ∧ t { nx := fun _ H' => Q .non H', rt := Q } ((start N [.ref a]).set 1 (some (.ref b))) H1 := fun b l H1 h1 h2 => by
    obtain ⟨st1, rest, t, e1, e2, e3, e4⟩ := hbody cdv A fr s H E (fun x => x = b ∨ x = l) b l H1 hs hr
    refine ⟨st1, rest, _, e1, e2, e3.pss, none :: some .bag :: List.replicate (N.length - 2) none, [], _, ?_, e4, fun _ _ _ z _ => z.elim, fun v H' d σ' Γ' h' r' => ?_, fun _ _ _ z _ => z.elim, fun _ _ _ z _ => z.elim⟩
    · obtain ⟨i0, i1, i2, ns2, g1, g2, g3, g4⟩ := id h2
      have e0 : (start N [V.ref a]).set 1 (some (.ref b)) = some (.ref a) :: some (.ref b) :: List.replicate (N.length - 2) none := by
        obtain ⟨n, hn⟩ : ∃ n, N.length = n + 2 := ⟨N.length - 2, by omega⟩
        show (some (V.ref a) :: List.replicate (N.length - 1) none).set 1 (some (.ref b)) = _
        rw [hn]
        rfl
      rw [e0]
      have ep : pairs (some (.ref a) :: some (.ref b) :: List.replicate (N.length - 2) none) (none :: some .bag :: List.replicate (N.length - 2) none) = [(V.ref b, B.bag)] := by
        show (V.ref b, B.bag) :: pairs (List.replicate (N.length - 2) none) (List.replicate (N.length - 2) none) = _
        rw [pairs_nones]
      refine ⟨⟨fun q hq => ?_, fun c hc => ?_, ?_, fun c hc => ?_, fun c hc => ?_, fun _ _ _ z => z⟩, by simp, fun i b' h => ?_⟩
      · rw [List.nil_append, ep] at hq
        obtain rfl := List.mem_singleton.mp hq
        exact ⟨b, rfl, rfl⟩
      · rw [List.nil_append, ep] at hc
        cases hc
      · rw [List.nil_append, ep]
        exact List.nodup_nil
      · rcases hc with rfl | rfl
        · rw [g1]; exact True.intro
        · rw [g3]; exact True.intro
      · cases hc
        exact ⟨.inl rfl, .inr rfl, h2⟩
      · match i, h with
        | 0, h => cases h
        | 1, h => exact ⟨_, rfl⟩
        | i + 2, h =>
          have h' : (List.replicate (N.length - 2) (none : Option B))[i]? = some (some b') := h
          rw [List.getElem?_replicate] at h'
          split at h' <;> cases h'
    · have hv := r'.top1
      rw [show d = D.bl true from h'] at hv
      cases hv
      exact κ H'
  obtain ⟨st1, rest, t0, e1, e2, _⟩ := hbody cdv A fr s H E (fun _ => False) 0 0 H hs hr
  have any : PSs (cxOf CX0 P w K mg base N qual (defScope st) f cdv A fr s H E).nox rest (fun D σ H9 => ∃ t, PSs (cxOf CX0 P w K mg base N qual (defScope st) f cdv A fr s H E).nox rest t ∧ t D σ H9) :=
    ⟨fun pins s2 σ H2 D I ⟨t, h, q⟩ => h.run pins s2 σ H2 D I q⟩
  rw [e1]
  refine ⟨_, (pss_cons e2 any).nox, .ref a, ?_, ?_⟩
  · obtain ⟨n, hn⟩ : ∃ n, N.length = n + 2 := ⟨N.length - 2, by omega⟩
    rfl
  · refine ⟨a, ns, rfl, hS, hl, fun b l H1 h1 _ _ h2 => ?_⟩
    obtain ⟨st1', rest', t', f1, f2, f3, f4⟩ := main b l H1 h1 h2
    rw [e1] at f1
    cases f1
    exact ⟨t', f3, f4⟩
end DL

namespace DL
open PySem PySem.Spec PyProof.Rows L2
section
variable {C : Cq} {X : Cx}
/-! ### "x" * n -/
def repS (x : Str) (n : Int) : Str := ⟨(List.replicate n.toNat x.cps).foldl (· ++ ·) #[]⟩
theorem rep_size (x : Str) : ∀ (n : Nat) (acc : Array Nat), ((List.replicate n x.cps).foldl (· ++ ·) acc).size = acc.size + n * x.cps.size
  | 0, acc => by simp
  | n + 1, acc => by
    rw [List.replicate_succ, List.foldl_cons, rep_size x n, Array.size_append, Nat.succ_mul]
    omega
theorem op_mulS : OpR X (binaryOp .Mult) (fun x y H Q => ∃ (s : Str) (n : Int), x = .str s ∧ y = .int n ∧ 2 ≤ n ∧ n ≤ 1000 ∧ s.length = 1 ∧ Q (.str (repS s n)) H) := fun pins s σ H x y v u Q I rx ry ⟨z, n, h1, h2, g0, g1, g2, q⟩ => by
  subst h1 h2
  obtain ⟨t, rfl⟩ := rx
  obtain ⟨t2, rfl⟩ := ry
  have e1 : ¬ n < 1 := by omega
  have e2 : (n == 1 || z.length == 0) = false := by
    rw [g2]
    have : (n == 1) = false := beq_eq_false_iff_ne.mpr (by omega)
    rw [this]
    rfl
  have sz : (repS z n).length ≤ 1000 := by
    show ((List.replicate n.toNat z.cps).foldl (· ++ ·) #[]).size ≤ 1000
    rw [rep_size]
    have : z.cps.size = 1 := g2
    rw [this]
    simp
    omega
  refine PySem.P.mul_str ?_ (fun _ _ => ?_) (fun _ _ => ?_) ?_
  · have a1 : ¬ n < -(2 ^ 63) := by omega
    have a2 : ¬ n ≥ 2 ^ 63 := by omega
    rw [decide_eq_false a1, decide_eq_false a2]
    rfl
  · rw [g2]
    intro w
    have : (1 : Int) ≤ (2 ^ 63 - 1) / n := by
      refine (Int.le_ediv_iff_mul_le (by omega)).mpr ?_
      omega
    omega
  · show decide _ = false
    rw [g2]
    simp
    rw [sizeLine_eq]
    omega
  · rw [if_neg e1, e2]
    exact ⟨Nat.le_trans sz (small (Nat.le_refl _)), ⟨.str (repS z n), H, I.tok _, ⟨_, rfl⟩, q⟩⟩
def fMulS : F2 := fun x y k => ∃ (s : Str) (n : Int), x = .str s ∧ y = .int n ∧ 2 ≤ n ∧ n ≤ 1000 ∧ s.length = 1 ∧ k (.str (repS s n))
theorem o2_mulS : Op2 C (fun x y H Q => ∃ (s : Str) (n : Int), x = .str s ∧ y = .int n ∧ 2 ≤ n ∧ n ≤ 1000 ∧ s.length = 1 ∧ Q (.str (repS s n)) H) fMulS := fun σ H Γ Ts x y d e k Q r ⟨s, n, h1, h2, g0, g1, g2, hk⟩ ans => by
  subst h1 h2
  cases r.top1
  cases r.drop.top1
  exact ⟨s, n, rfl, rfl, g0, g1, g2, ans _ _ _ hk (r.drop.drop.str _)⟩
/-! ### texts compared as they are -/
def fEqS : F2 := fun x y k => ∃ s t : Str, x = .str s ∧ y = .str t ∧ k (.bl (s == t))
def fNeS : F2 := fun x y k => ∃ s t : Str, x = .str s ∧ y = .str t ∧ k (.bl (!(s == t)))
theorem o2_eqS : Op2 C rEq fEqS := fun σ H Γ Ts x y d e k Q r ⟨s, t, h1, h2, hk⟩ ans => by
  subst h1 h2
  cases r.top1
  cases r.drop.top1
  refine ⟨rfl, ?_⟩
  rw [dec_str]
  exact ans _ _ _ hk (r.drop.drop.bl _)
theorem o2_neS : Op2 C rNe fNeS := fun σ H Γ Ts x y d e k Q r ⟨s, t, h1, h2, hk⟩ ans => by
  subst h1 h2
  cases r.top1
  cases r.drop.top1
  refine ⟨rfl, ?_⟩
  rw [dec_str]
  exact ans _ _ _ hk (r.drop.drop.bl _)
end
theorem FnG.no {P : Program} {w : World} {K : PySem.W.Frag} {mg : Str → Option Value} {base : Heap} {CX : CXT} {k : Nat} {f : Addr} {fd : FuncData} {ps : List Str} {sp : Sp} (h : ∀ vs H Q E, sp vs H Q E → False) : FnG P w K mg base CX k f fd ps sp :=
  ⟨fun vs H Q E z => (h vs H Q E z).elim, fun A fr s H args us vs Q E _ _ _ _ _ z => (h vs H Q E z).elim⟩
theorem spD_no {K : PySem.W.Frag} {pre : List D → Prop} {post : List D → D → Prop} (h : ∀ ds, ¬ pre ds) {vs : List V} {H : Hp} {Q : VK} {E : XK} : spD K pre post vs H Q E → False := fun ⟨_, ds, _, _, hp, _⟩ => h ds hp
theorem spB_no {K : PySem.W.Frag} {pre : List D → Prop} {post : List D → D → Prop} (h : ∀ ds, ¬ pre ds) {vs : List V} {H : Hp} {Q : VK} {E : XK} : spB K pre post vs H Q E → False := fun ⟨_, _, _, _, ds, _, _, _, _, _, _, hp, _⟩ => h ds hp
/-! ### small facts -/
theorem draw {n : Int} {R : D → Prop} (h0 : 0 < n) (h1 : n < 1000000000) (h : ∀ r : Int, 0 ≤ r → r < n → R (.int r)) : preT [.int n] ∧ ∀ d, postT [.int n] d → R d := by
  refine ⟨⟨n, rfl, h0, h1⟩, ?_⟩
  rintro d ⟨n', r, e, rfl, g0, g1⟩
  cases e
  exact h r g0 g1
theorem pick {L : List D} {i : Int} {R : D → Prop} (h0 : 0 ≤ i) (h1 : i < L.length) (h : ∀ x ∈ L, R x) : ∃ x, ixD (.lst L) i = some x ∧ R x := by
  obtain ⟨x, e, m⟩ := ix_in h0 h1
  exact ⟨x, e, h x m⟩
theorem rng_len {lo : Int} {n : Nat} : (rngD lo n).length = n := by unfold rngD; rw [List.length_map, List.length_range]
theorem rng_mem {lo : Int} {n : Nat} {d : D} (h : d ∈ rngD lo n) : ∃ i : Int, d = .int i ∧ lo ≤ i ∧ i < lo + n := by
  obtain ⟨i, hi, rfl⟩ := List.mem_map.mp h
  have := List.mem_range.mp hi
  exact ⟨_, rfl, by omega, by omega⟩
theorem flat_filter (c : D → Bool) (f : D → D) : ∀ ds : List D, (ds.map fun d => if c d = true then [f d] else []).flatten = (ds.filter c).map f
  | [] => rfl
  | d :: r => by
    rw [List.map_cons, List.flatten_cons, flat_filter c f r]
    by_cases h : c d = true
    · rw [if_pos h, List.filter_cons_of_pos h]
      rfl
    · rw [if_neg h, List.filter_cons_of_neg h]
      rfl
theorem flat_map (f : D → D) : ∀ ds : List D, (ds.map fun d => [f d]).flatten = ds.map f
  | [] => rfl
  | d :: r => by
    rw [List.map_cons, List.flatten_cons, flat_map f r]
    rfl
theorem at0 {α : Type} {x : α} {r : List α} : atI (x :: r) 0 = some x := atI_nat (j := 0) rfl
theorem at1 {α : Type} {x y : α} {r : List α} : atI (x :: y :: r) 1 = some y := atI_nat (j := 1) rfl
theorem at2 {α : Type} {x y z : α} {r : List α} : atI (x :: y :: z :: r) 2 = some z := atI_nat (j := 2) rfl
theorem eqv_tup_str {xs : List D} {s : Str} : PyData.eqv (D.tup xs).py (D.str s).py = false := by simp [D.py, PyData.eqv]
theorem eqv_str_tup {xs : List D} {s : Str} : PyData.eqv (D.str s).py (D.tup xs).py = false := by simp [D.py, PyData.eqv]
theorem eqv_str {s t : Str} : PyData.eqv (D.str s).py (D.str t).py = (s == t) := by simp [D.py, PyData.eqv]
theorem eqv_int {s t : Int} : PyData.eqv (D.int s).py (D.int t).py = (s == t) := by simp [D.py, PyData.eqv]
theorem Cmp.str {x : Str} (h : x.cps.all (· < 0x110000) = true) : Cmp (.str x) := (Fit.str (a := 0) h (Nat.le_refl _)).cmp (by decide)
theorem Cmp.int {i : Int} : Cmp (.int i) := by
  unfold Cmp SeqAt.shaped D.py
  rfl
end DL

namespace DL
open PySem PySem.Spec PyProof.Rows L2
/-! ### things that one owns, in a slot -/
theorem pairs_at : ∀ {σ : L2.St} {Γ : G} {i : Nat} {v : V} {b : B}, σ[i]? = some (some v) → Γ[i]? = some (some b) → ∃ R, (pairs σ Γ).Perm ((v, b) :: R) ∧ ∀ b', (pairs σ (Γ.set i (some b'))).Perm ((v, b') :: R)
  | [], _, i, _, _, h, _ => by simp at h
  | _ :: _, [], i, _, _, _, h => by simp at h
  | x :: σ, y :: Γ, 0, v, b, h, g => by
    simp only [List.getElem?_cons_zero, Option.some.injEq] at h g
    subst h g
    exact ⟨pairs σ Γ, .refl _, fun b' => .refl _⟩
  | x :: σ, y :: Γ, i + 1, v, b, h, g => by
    obtain ⟨R, p, q⟩ := pairs_at (σ := σ) (Γ := Γ) (i := i) (by simpa using h) (by simpa using g)
    cases x with
    | none => exact ⟨R, by cases y <;> exact p, fun b' => by cases y <;> exact q b'⟩
    | some x =>
      cases y with
      | none => exact ⟨R, p, fun b' => q b'⟩
      | some y => exact ⟨(x, y) :: R, (p.cons _).trans (.swap _ _ _), fun b' => ((q b').cons _).trans (.swap _ _ _)⟩
theorem sh_perm {C : Cq} {L L' : List (V × B)} (h : L.Perm L') : sh C L = sh C L' := by
  funext a
  unfold sh
  have := (owns_perm h).mem_iff (a := a)
  simp only [this]
theorem Sub.of {L L' : List (V × B)} (h : L.Perm L') : Sub L' L := ⟨[], by rw [List.append_nil]; exact h⟩
section
variable {C : Cq} {σ : L2.St} {H : Hp} {Γ : G} {Ts : List (V × B)}
theorem RS.own (r : RS C σ H Γ Ts) {i : Nat} {d : D} (h : Γ[i]? = some (some (.own d))) : ∃ a, σ[i]? = some (some (.ref a)) ∧ Top C.K H (hid (sh C (Ts ++ pairs σ Γ)) H) a d ∧
    (∀ o d', Top C.K (upd H a o) (hid (sh C (Ts ++ pairs σ Γ)) H) a d' → RS C σ (upd H a o) (Γ.set i (some (.own d'))) Ts) ∧ RS C σ H (Γ.set i (some (.dat d))) Ts := by
  obtain ⟨v, e, m⟩ := r.get h
  obtain ⟨a, rfl, t⟩ := r.rel.ok _ m
  obtain ⟨R, p, q⟩ := pairs_at e h
  have p1 : (Ts ++ pairs σ Γ).Perm ((V.ref a, B.own d) :: (Ts ++ R)) := (p.append_left Ts).trans List.perm_middle
  have q1 : ∀ b', (Ts ++ pairs σ (Γ.set i (some b'))).Perm ((V.ref a, b') :: (Ts ++ R)) := fun b' => ((q b').append_left Ts).trans List.perm_middle
  have r1 := r.rel.sub (Sub.of p1)
  have len : ∀ b' : B, (Γ.set i (some b')).length = σ.length := fun b' => by rw [List.length_set]; exact r.len
  have cov : ∀ (b' : B) (j : Nat) (b : B), (Γ.set i (some b'))[j]? = some (some b) → ∃ v : V, σ[j]? = some (some v) := fun b' j b hj => by
    by_cases z : i = j
    · subst z
      exact ⟨_, e⟩
    · rw [List.getElem?_set_ne z] at hj
      exact r.cov j b hj
  refine ⟨a, e, t, fun o d' t' => ⟨?_, len _, cov _⟩, ⟨?_, len _, cov _⟩⟩
  · rw [sh_perm p1] at t'
    exact (r1.write t').sub (Sub.of (q1 _).symm)
  · exact r1.freeze.sub (Sub.of (q1 _).symm)
end
/-! ### a new thing that one may change, as a value -/
def AnsO (C : Cq) (σ : L2.St) (Γ : G) (Ts : List (V × B)) (k : D → Prop) (Q : VK) : Prop := ∀ v H' d, k d → RS C σ H' Γ ((v, .own d) :: Ts) → Q v H'
def liftN (C : Cq) (t : DE) : TE := fun σ H Q => ∃ Γ Ts k, RS C σ H Γ Ts ∧ t Γ k ∧ AnsO C σ Γ Ts k Q
structure OE (C : Cq) (X : Cx) (e : Expr) (t : DE) : Prop where
  pe : PE X e (liftN C t)
section
variable {C : Cq} {X : Cx} {σ : L2.St} {H : Hp} {Γ : G} {Ts : List (V × B)}
theorem RS.newO (r : RS C σ H Γ Ts) {p : Addr} (h : H p = none) {o : HO} {d : D} (k : Top C.K (upd H p o) (hid (sh C (Ts ++ pairs σ Γ)) H) p d) : RS C σ (upd H p o) Γ ((.ref p, .own d) :: Ts) := ⟨r.rel.newOwn1 h k, r.len, r.cov⟩
theorem oe_lst {es : List Expr} {t : DA} {pos} (h : AD C X es t) : OE C X (.List es pos) (dLst t) :=
  ⟨(pe_lst h.pa).weak fun σ H Q ⟨Γ, Ts, k, r, hk, ans⟩ => ⟨Γ, Ts, _, r, hk, fun vs H1 ds ⟨hl, hk1⟩ ⟨r1, q⟩ => ⟨by rw [q.length]; exact small hl, fun p hp => ans _ _ _ hk1 (r1.newO hp (.lst upd_same q))⟩⟩⟩
theorem oe_list {e : Expr} {t : DE} {p pos : Pos} (hk : C.K = X.K) (ha : ED C X e t) (hg : Gl X "list") (hm : X.mg "list" = none) (he : starEach [e] X.env = (false, eval e X.env) :: starEach [] X.env := by rfl) (hpl : (backTo pos (starEach [] X.env)).any (·.1) = false := by rfl) :
    OE C X (.Call (.Name "list" p) [e] [] pos) (dB fList (dCons t dNil)) :=
  ⟨(pe_callTy call_list_of hg hm (by decide +kernel) (ad_cons ha ad_nil (hs := he)).pa (by decide) (by decide) he hpl).weak fun σ H Q ⟨Γ, Ts, k, r, h, ans⟩ => ⟨Γ, Ts, _, r, h, fun vs H' ds ⟨xs, h0, hd⟩ q => by
    rw [← hk]
    rcases h0 with h0 | h0
    · subst h0
      obtain ⟨v, rfl, t⟩ := q.one
      cases t with
      | @lst a ys _ e q2 => exact ⟨a, ys, rfl, .inl (SqL.of (hid_full _ _ e)), fun l hl => ans _ _ _ hd (q.1.newO hl (.lst upd_same q2))⟩
    · subst h0
      obtain ⟨v, rfl, t⟩ := q.one
      cases t with
      | @tup a ys _ e q2 => exact ⟨a, ys, rfl, .inr (SqT.of (hid_full _ _ e)), fun l hl => ans _ _ _ hd (q.1.newO hl (.lst upd_same q2))⟩⟩⟩
/-- xs + ys, lists -/
def fCat : F2 := fun x y k => ∃ xs ys, x = .lst xs ∧ y = .lst ys ∧ xs.length + ys.length ≤ sizeLine ∧ k (.lst (xs ++ ys))
theorem oe_cat {x y : Expr} {a b : DE} {pos : Pos} (ha : ED C X x a) (hb : ED C X y b) : OE C X (.BinOp x .Add y pos) (d2 fCat a b) :=
  ⟨(pe_op op_cat ha.pe hb.pe).weak fun σ H Q ⟨Γ, Ts, k, s, hk, ans⟩ => ⟨Γ, Ts, _, s, hk, fun v H1 d hk1 r1 => ⟨Γ, _, _, r1, hk1, fun w H2 e ⟨xs, ys, h1, h2, hl, hk2⟩ r2 => by
    subst h1 h2
    have tx := r2.drop.top
    have ty := r2.top
    have sw : sh C ((v, B.dat (.lst xs)) :: Ts ++ pairs σ Γ) = sh C (Ts ++ pairs σ Γ) := sh_dat
    rw [sw] at ty
    cases tx with
    | @lst a us _ e1 q1 =>
      cases ty with
      | @lst b ws _ e2 q2 =>
        exact ⟨a, b, us, ws, rfl, rfl, hid_full _ _ e1, hid_full _ _ e2, by rw [q1.length, q2.length]; exact hl, fun p hp => ans _ _ _ hk2 (r2.drop.drop.newO hp (.lst upd_same (q1.append q2)))⟩⟩⟩⟩
/-- x = e, a new thing -/
def sSetO (i : Nat) (a : DE) : DS := fun O Γ => a Γ fun d => O.nx (Γ.set i (some (.own d)))
theorem sd_setO {i : Nat} {x : Str} {e : Expr} {pos pos' : Pos} {a : DE} (hN : X.N.Nodup) (hi : X.N[i]? = some x) (hx : Loc X.env.scope x) (he : OE C X e a) (hs : swapsWith e (some (.Name x pos')) pos.line X.env = pure false := by rfl)
    (hf : X.fn x = true ∨ X.env.scope.names.lookup x = some .local := by first | exact .inl rfl | exact .inr rfl | assumption) : SD C X (.Assign [.Name x pos'] e pos) (sSetO i a) :=
  ⟨(ps_set hN hi hx he.pe hs hf).weak fun D' σ H ⟨Γ, Ts, O, r, h, n, _⟩ => ⟨Γ, Ts, _, r, h, fun v H' d hd r' => n _ H' _ hd (r'.set i)⟩⟩
/-- x, y = a, e: e a new thing -/
def sParO (i j : Nat) (a b : DE) : DS := fun O Γ => a Γ fun d => b Γ fun e => O.nx ((Γ.set i (some (.dat d))).set j (some (.own e)))
theorem sd_parO {i j : Nat} {x y : Str} {a b : Expr} {ta tb : DE} {px py pt pos : Pos} {kt k2 pt2} (hc : X.calm = true) (hN : X.N.Nodup) (hi : X.N[i]? = some x) (hj : X.N[j]? = some y) (hij : i ≠ j)
    (hx : X.env.scope.names.lookup x = some .local) (hy : X.env.scope.names.lookup y = some .local) (ha : ED C X a ta) (hb : OE C X b tb)
    (hw : swappedStores [.Tuple [.Name x px, .Name y py] kt pt] (.Tuple [a, b] k2 pt2) X.env = pure (some [x, y]))
    (hs : swapsWithSole [.Tuple [.Name x px, .Name y py] kt pt] (.Tuple [a, b] k2 pt2) pos.line X.env = pure false := by rfl) (he : starEach [a, b] X.env = (false, eval a X.env) :: starEach [b] X.env := by rfl) (he2 : starEach [b] X.env = (false, eval b X.env) :: starEach [] X.env := by rfl) :
    SD C X (.Assign [.Tuple [.Name x px, .Name y py] kt pt] (.Tuple [a, b] k2 pt2) pos) (sParO i j ta tb) :=
  ⟨(ps_par hc hN hi hj hij hx hy (pa_cons ha.pe (pa_cons hb.pe pa_nil he2) he) hw hs).weak fun D' σ H ⟨Γ, Ts, O, r, h, n, _⟩ => ⟨Γ, Ts, _, r, h, fun v H1 d h1 r1 => ⟨Γ, _, _, r1, h1, fun w H2 e h2 r2 =>
    ⟨v, w, rfl, n _ H2 _ h2 (((r2.sub Sub.swap).set i).set j)⟩⟩⟩⟩
/-- from here on the thing is not changed -/
def sFrz (i : Nat) (t : DS) : DS := fun O Γ => ∃ d, Γ[i]? = some (some (.own d)) ∧ t O (Γ.set i (some (.dat d)))
theorem ss_frz (i : Nat) {sts : List Stmt} {t : DS} (h : SSD C X sts t) : SSD C X sts (sFrz i t) :=
  ⟨h.pss.weak fun D' σ H ⟨Γ, Ts, O, r, ⟨d, e, ht⟩, ends⟩ => by
    obtain ⟨a, _, _, _, rf⟩ := r.own e
    exact ⟨_, Ts, O, rf, ht, ends⟩⟩
/-! ### methods -/
def sApp (i : Nat) (a : DE) : DS := fun O Γ => ∃ ds, Γ[i]? = some (some (.own (.lst ds))) ∧ ds.length < 1000000 ∧ a Γ fun d => O.nx (Γ.set i (some (.own (.lst (ds ++ [d])))))
theorem RS.lstAt {r1 : RS C σ H Γ Ts} {a : Addr} {ds : List D} (h : Top C.K H (hid (sh C (Ts ++ pairs σ Γ)) H) a (.lst ds)) : ∃ xs, H a = some (.lst xs) ∧ RpA C.K (hid (sh C (Ts ++ pairs σ Γ)) H) xs ds := by
  cases h with
  | lst e q => exact ⟨_, e, q⟩
theorem sd_app (i : Nat) {x : Str} {e : Expr} {a : DE} {xp ap cp pos : Pos} (hk : C.K = X.K) (hN : X.N[i]? = some x := by rfl) (he : ED C X e a) (hv : Vis X.env.scope x := by first | exact Or.inl rfl | exact Or.inr (Or.inl rfl) | exact Or.inr (Or.inr rfl)) (hd : (x == ("__debug__" : Str)) = false := by decide) (hcd : (x == ("__classdict__" : Str)) = false := by decide)
    (hbase : attributeBase (.Name x xp) "append" X.env (eval (.Name x xp) X.env) = eval (.Name x xp) X.env := by rfl)
    (hfew : ((backTo cp (starEach [e] X.env)).all (fun x => !x.1) && (backToKw cp (keywordEach [] X.env)).all (fun x => x.1.isSome)
      && decide (([e] : List Expr).length + ([] : List Keyword).length + (if ([] : List Keyword).isEmpty then 0 else 1) < 30)) = true := by rfl)
    (hline : (ap.endLine == cp.line) = true := by rfl) (hs : starEach [e] X.env = (false, eval e X.env) :: starEach [] X.env := by rfl) (hplain : (backTo cp (starEach [] X.env)).any (·.1) = false := by rfl)
    (hsw : swapsWith (.Call (.Attribute (.Name x xp) "append" ap) [e] [] cp) none pos.line X.env = pure false := by rfl) :
    SD C X (.Expr (.Call (.Attribute (.Name x xp) "append" ap) [e] [] cp) pos) (sApp i a) :=
  ⟨(ps_expr (pe_bm (T := "list") F.plainAttrs_list F.slot_list_append F.type_list_append mt_append (pe_var hN hv hd hcd) (pa_cons he.pe pa_nil hs) hbase hfew hline hs hplain) hsw).weak fun D' σ H ⟨Γ, Ts, O, r, ⟨ds, h0, h1, h⟩, n, _⟩ => by
    obtain ⟨l, e1, t1, _, _⟩ := r.own h0
    obtain ⟨xs, e2, q2⟩ := RS.lstAt (r1 := r) t1
    refine ⟨_, e1, .inl ⟨rfl, xs, SqL.of e2⟩, Γ, Ts, _, r, h, fun v H1 d hd r1 => ?_⟩
    obtain ⟨l', e1', t1', w, _⟩ := r1.drop.own h0
    rw [e1] at e1'
    cases e1'
    obtain ⟨ys, e3, q3⟩ := RS.lstAt (r1 := r1.drop) t1'
    refine ⟨l, ys, v, rfl, rfl, e3, ?_, n _ _ _ hd (w _ _ (.lst upd_same (q3.append (.cons r1.top .nil))))⟩
    have := sizeL
    have := q3.length
    omega⟩
def sIns (i : Nat) (a : DE) (b : DE) : DS := fun O Γ => ∃ ds, Γ[i]? = some (some (.own (.lst ds))) ∧ ds.length < 1000000 ∧ a Γ fun j => b Γ fun d => ∃ n : Int, j = .int n ∧ 0 ≤ n ∧ n < 1000000000 ∧ O.nx (Γ.set i (some (.own (.lst (ds.take n.toNat ++ [d] ++ ds.drop n.toNat)))))
theorem sd_ins (i : Nat) {x : Str} {e e2 : Expr} {a b : DE} {xp ap cp pos : Pos} (hk : C.K = X.K) (hN : X.N[i]? = some x := by rfl) (he : ED C X e a) (he2 : ED C X e2 b) (hv : Vis X.env.scope x := by first | exact Or.inl rfl | exact Or.inr (Or.inl rfl) | exact Or.inr (Or.inr rfl)) (hd : (x == ("__debug__" : Str)) = false := by decide) (hcd : (x == ("__classdict__" : Str)) = false := by decide)
    (hbase : attributeBase (.Name x xp) "insert" X.env (eval (.Name x xp) X.env) = eval (.Name x xp) X.env := by rfl)
    (hfew : ((backTo cp (starEach [e, e2] X.env)).all (fun x => !x.1) && (backToKw cp (keywordEach [] X.env)).all (fun x => x.1.isSome)
      && decide (([e, e2] : List Expr).length + ([] : List Keyword).length + (if ([] : List Keyword).isEmpty then 0 else 1) < 30)) = true := by rfl)
    (hline : (ap.endLine == cp.line) = true := by rfl) (hs : starEach [e, e2] X.env = (false, eval e X.env) :: starEach [e2] X.env := by rfl) (hs2 : starEach [e2] X.env = (false, eval e2 X.env) :: starEach [] X.env := by rfl) (hplain : (backTo cp (starEach [e2] X.env)).any (·.1) = false := by rfl)
    (hsw : swapsWith (.Call (.Attribute (.Name x xp) "insert" ap) [e, e2] [] cp) none pos.line X.env = pure false := by rfl) :
    SD C X (.Expr (.Call (.Attribute (.Name x xp) "insert" ap) [e, e2] [] cp) pos) (sIns i a b) :=
  ⟨(ps_expr (pe_bm (T := "list") F.plainAttrs_list F.slot_list_insert F.type_list_insert mt_insert (pe_var hN hv hd hcd) (pa_cons he.pe (pa_cons he2.pe pa_nil hs2) hs) hbase hfew hline hs hplain) hsw).weak fun D' σ H ⟨Γ, Ts, O, r, ⟨ds, h0, h1, h⟩, n, _⟩ => by
    obtain ⟨l, e1, t1, _, _⟩ := r.own h0
    obtain ⟨xs, e2, q2⟩ := RS.lstAt (r1 := r) t1
    refine ⟨_, e1, .inl ⟨rfl, xs, SqL.of e2⟩, Γ, Ts, _, r, h, fun v H1 j hj r1 => ⟨Γ, _, _, r1, hj, fun v2 H2 d ⟨m, ej, m0, m1, hd⟩ r2 => ?_⟩⟩
    subst ej
    cases r2.drop.top1
    obtain ⟨l', e1', t1', w, _⟩ := r2.drop.drop.own h0
    rw [e1] at e1'
    cases e1'
    obtain ⟨ys, e3, q3⟩ := RS.lstAt (r1 := r2.drop.drop) t1'
    have tv := r2.top
    have sw : ∀ p, sh C (((p, B.dat (.int m)) :: Ts) ++ pairs σ Γ) = sh C (Ts ++ pairs σ Γ) := fun p => sh_dat
    rw [sw] at tv
    refine ⟨l, ys, m, v2, rfl, rfl, e3, ?_, m0, by omega, n _ _ _ hd (w _ _ (.lst upd_same (((q3.take _).append (.cons tv .nil)).append (q3.drop _))))⟩
    have := sizeL
    have := q3.length
    omega⟩
/-- x[j] = e -/
def sPut (i : Nat) (a : DE) (b : DE) : DS := fun O Γ => b Γ fun d => ∃ ds, Γ[i]? = some (some (.own (.lst ds))) ∧ a Γ fun j => ∃ n m, j = .int n ∧ ixN ds.length n = some m ∧ O.nx (Γ.set i (some (.own (.lst (ds.set m d)))))
theorem RpA.set {K : PySem.W.Frag} {H : Hp} : ∀ {vs : List V} {ds : List D} (m : Nat) {v : V} {d : D}, RpA K H vs ds → Rp K H v d → RpA K H (vs.set m v) (ds.set m d)
  | _, _, _, _, _, .nil, _ => .nil
  | _, _, 0, _, _, .cons _ t, q => .cons q t
  | _, _, m + 1, _, _, .cons r t, q => .cons r (t.set m q)
theorem sd_put (i : Nat) {x : Str} {e e2 : Expr} {a b : DE} {xp tp pos : Pos} (hk : C.K = X.K) (hN : X.N[i]? = some x := by rfl) (he : ED C X e a) (he2 : ED C X e2 b) (hv : Vis X.env.scope x := by first | exact Or.inl rfl | exact Or.inr (Or.inl rfl) | exact Or.inr (Or.inr rfl)) (hd : (x == ("__debug__" : Str)) = false := by decide) (hcd : (x == ("__classdict__" : Str)) = false := by decide)
    (ha : ∀ v, assign (.Subscript (.Name x xp) e tp) X.env v = (do
      let ov ← holding [v] (eval (.Name x xp) X.env)
      let iv ← holding [v, ov] (eval e X.env)
      standAt tp
      holding [v, ov, iv] (setItem ov iv v)
      release [v, ov, iv] []) := by intro _; rfl) (hs : swapsWithSole [.Subscript (.Name x xp) e tp] e2 pos.line X.env = pure false := by rfl) (hw : swappedStores [.Subscript (.Name x xp) e tp] e2 X.env = pure none := by rfl) :
    SD C X (.Assign [.Subscript (.Name x xp) e tp] e2 pos) (sPut i a b) :=
  ⟨(ps_asg he2.pe (pg_sub (pe_var hN hv hd hcd) he.pe set_list ha) hs hw).weak fun D' σ H ⟨Γ, Ts, O, r, h, n, _⟩ => ⟨Γ, Ts, _, r, h, fun v H1 d ⟨ds, h0, hd⟩ r1 => by
    obtain ⟨l, e1, t1, _, _⟩ := r1.own h0
    refine ⟨_, e1, Γ, _, _, r1, hd, fun jv H2 j ⟨m, p, ej, hp, hd⟩ r2 => ?_⟩
    subst ej
    cases r2.top1
    obtain ⟨l', e1', t1', w, _⟩ := r2.drop.drop.own h0
    rw [e1] at e1'
    cases e1'
    obtain ⟨ys, e3, q3⟩ := RS.lstAt (r1 := r2.drop.drop) t1'
    exact ⟨l, ys, m, p, rfl, rfl, e3, by rw [q3.length]; exact hp, n _ _ _ hd (w _ _ (.lst upd_same (q3.set p r2.drop.top)))⟩⟩⟩
/-! ### what is read of it -/
def dIxO (i : Nat) (b : DE) : DE := fun Γ k => ∃ ds, Γ[i]? = some (some (.own (.lst ds))) ∧ b Γ fun e => ∃ j d, e = .int j ∧ atI ds j = some d ∧ k d
theorem ed_ixO (i : Nat) {x : Str} {b : Expr} {tb : DE} {xp pos : Pos} (hk : C.K = X.K) (hN : X.N[i]? = some x := by rfl) (hb : ED C X b tb) (hs : PlainIx b) (hv : Vis X.env.scope x := by first | exact Or.inl rfl | exact Or.inr (Or.inl rfl) | exact Or.inr (Or.inr rfl)) (hd : (x == ("__debug__" : Str)) = false := by decide) (hcd : (x == ("__classdict__" : Str)) = false := by decide) :
    ED C X (.Subscript (.Name x xp) b pos) (dIxO i tb) :=
  ⟨(pe_ix ix_seq (pe_var hN hv hd hcd) hb.pe hs).weak fun σ H Q ⟨Γ, Ts, k, r, ⟨ds, h0, h⟩, ans⟩ => by
    obtain ⟨l, e1, t1, _, _⟩ := r.own h0
    refine ⟨_, e1, Γ, Ts, _, r, h, fun jv H2 j ⟨m, d, ej, hd, hk'⟩ r2 => ?_⟩
    subst ej
    cases r2.top1
    obtain ⟨l', e1', t1', _, _⟩ := r2.drop.own h0
    rw [e1] at e1'
    cases e1'
    obtain ⟨ys, e3, q3⟩ := RS.lstAt (r1 := r2.drop) t1'
    obtain ⟨v, e4, e5⟩ := q3.at hd
    exact .inl ⟨l, ys, m, v, rfl, rfl, SqL.of e3, e4, ans _ _ _ hk' (r2.drop.push e5)⟩⟩
def dSlO (i : Nat) (l h : DO) : DE := fun Γ k => ∃ ds, Γ[i]? = some (some (.own (.lst ds))) ∧ l Γ fun lo => h Γ fun hi => k (.lst (cutD ds lo hi))
theorem ed_slO (i : Nat) {x : Str} {lo hi : Option Expr} {l h : DO} {xp p2 pos : Pos} (hk : C.K = X.K) (hN : X.N[i]? = some x := by rfl) (hl : OG C X lo l) (hh : OG C X hi h) (hv : Vis X.env.scope x := by first | exact Or.inl rfl | exact Or.inr (Or.inl rfl) | exact Or.inr (Or.inr rfl)) (hd : (x == ("__debug__" : Str)) = false := by decide) (hcd : (x == ("__classdict__" : Str)) = false := by decide) :
    ED C X (.Subscript (.Name x xp) (.Slice lo hi none p2) pos) (dSlO i l h) :=
  ⟨(pe_slice sl_list (pe_var hN hv hd hcd) hl.po hh.po).weak fun σ H Q ⟨Γ, Ts, k, r, ⟨ds, h0, h⟩, ans⟩ => by
    obtain ⟨a, e1, t1, _, _⟩ := r.own h0
    refine ⟨_, e1, Γ, Ts, _, r, h, fun lo H2 h2 r2 => ⟨Γ, Ts, _, r2, h2, fun hi H3 h3 r3 => ?_⟩⟩
    obtain ⟨l', e1', t1', _, _⟩ := r3.own h0
    rw [e1] at e1'
    cases e1'
    obtain ⟨ys, e3, q3⟩ := RS.lstAt (r1 := r3) t1'
    exact ⟨a, ys, rfl, SqL.of e3, fun p hp => ans _ _ _ h3 (r3.newL hp (q3.cut lo hi))⟩⟩
/-- all own things seen as data: for what gives a plain value -/
def viewB : Option B → Option B
  | some (.own d) => some (.dat d)
  | b => b
def D.plain : D → Bool
  | .non => true
  | .bl _ => true
  | .int _ => true
  | .str _ => true
  | _ => false
theorem Rp.plain {K : PySem.W.Frag} {H H' : Hp} {v : V} {d : D} (r : Rp K H v d) (h : d.plain = true) : Rp K H' v d := by
  cases r with
  | non => exact .non
  | bl b => exact .bl b
  | int i => exact .int i
  | str x => exact .str x
  | _ => cases h
theorem pairs_view (σ : L2.St) (Γ : G) : pairs σ (Γ.map viewB) = (pairs σ Γ).map (fun p => (p.1, match p.2 with | .own d => .dat d | b => b)) := by
  induction σ generalizing Γ with
  | nil => cases Γ <;> rfl
  | cons x σ ih =>
    cases Γ with
    | nil => cases x <;> rfl
    | cons y Γ =>
      cases x with
      | none => exact ih Γ
      | some x =>
        cases y with
        | none => exact ih Γ
        | some y =>
          cases y with
          | dat d => exact congrArg (_ :: ·) (ih Γ)
          | own d => exact congrArg (_ :: ·) (ih Γ)
          | bag => exact congrArg (_ :: ·) (ih Γ)
theorem RS.view (r : RS C σ H Γ Ts) : RS ⟨C.K, C.bg, C.bl, fun a => C.S0 a ∨ a ∈ owns Ts, H⟩ σ H (Γ.map viewB) [] := by
  have nn : owns (pairs σ (Γ.map viewB)) = [] := by
    rw [pairs_view]
    induction pairs σ Γ with
    | nil => rfl
    | cons p L ih =>
      obtain ⟨v, b⟩ := p
      cases b with
      | dat d => rw [List.map_cons, owns_dat]; exact ih
      | own d => rw [List.map_cons, owns_dat]; exact ih
      | bag => rw [List.map_cons, owns_bag]; exact ih
  have nd := r.rel.nd
  rw [owns_append] at nd
  have es : sh ⟨C.K, C.bg, C.bl, fun a => C.S0 a ∨ a ∈ owns Ts, H⟩ ([] ++ pairs σ (Γ.map viewB)) = fun a => C.S0 a ∨ a ∈ owns Ts := by
    funext a
    unfold sh
    rw [List.nil_append, nn]
    simp
  have less : ∀ a, (C.S0 a ∨ a ∈ owns Ts) → sh C (Ts ++ pairs σ Γ) a := fun a z => z.imp_right fun z => by
    rw [owns_append]
    exact List.mem_append_left _ z
  refine ⟨⟨fun p hp => ?_, fun a ha => ?_, ?_, fun a z => ?_, fun b hb => ?_, fun _ _ _ z => z⟩, by rw [List.length_map]; exact r.len, fun i b hb => ?_⟩
  · rw [es]
    rw [List.nil_append, pairs_view] at hp
    obtain ⟨⟨v, b⟩, hm, rfl⟩ := List.mem_map.mp hp
    have h1 := r.rel.ok (v, b) (List.mem_append_right _ hm)
    cases b with
    | dat d => exact Rp.mono (hid_mono less fun _ _ _ e => e) h1
    | own d =>
      obtain ⟨a, rfl, t⟩ := h1
      have n1 := r.rel.own a (by rw [owns_append]; exact List.mem_append_right _ (mem_owns hm))
      have n2 : a ∉ owns Ts := fun z => (List.nodup_append.mp nd).2.2 a z a (mem_owns hm) rfl
      exact Top.rp (t.mono (fun o e => hid_mk (fun z => z.elim n1.1 n2) e) (hid_mono less fun _ _ _ e => e))
    | bag => exact h1
  · rw [List.nil_append, nn] at ha
    cases ha
  · rw [List.nil_append, nn]
    exact List.nodup_nil
  · exact r.rel.thing (z.imp_right fun z => by rw [owns_append]; exact List.mem_append_left _ z)
  · exact ⟨.inl (r.rel.bag b hb).1, .inl (r.rel.bag b hb).2.1, (r.rel.bag b hb).2.2⟩
  · rw [List.getElem?_map] at hb
    cases q : Γ[i]? with
    | none =>
      rw [q] at hb
      cases hb
    | some b0 =>
      cases b0 with
      | none =>
        rw [q] at hb
        cases hb
      | some b0 => exact r.cov i b0 q
def dView (t : DE) : DE := fun Γ k => t (Γ.map viewB) fun d => d.plain = true ∧ k d
theorem ed_view {e : Expr} {t : DE} (h : ∀ (S0 : Addr → Prop) (H0 : Hp), ED ⟨C.K, C.bg, C.bl, S0, H0⟩ X e t) : ED C X e (dView t) :=
  ⟨⟨fun pins s σ H Q I ⟨Γ, Ts, k, r, ht, ans⟩ => (h (fun a => C.S0 a ∨ a ∈ owns Ts) H).pe.run pins s σ H Q I ⟨Γ.map viewB, [], _, r.view, ht, fun v H' d ⟨hp, hk⟩ r' =>
    ans v H' d hk ((r.step (fun a o n e => r'.rel.same a o n e) fun b e => (r'.rel.bag b e).2.2).push (r'.top.plain hp))⟩⟩⟩
def tView (t : DT) : DT := fun Γ k => t (Γ.map viewB) k
theorem td_view {e : Expr} {t : DT} (h : ∀ (S0 : Addr → Prop) (H0 : Hp), TD ⟨C.K, C.bg, C.bl, S0, H0⟩ X e t) : TD C X e (tView t) :=
  ⟨⟨fun pins s σ H Q I ⟨Γ, Ts, k, r, ht, z⟩ => (h (fun a => C.S0 a ∨ a ∈ owns Ts) H).pt.run pins s σ H Q I ⟨Γ.map viewB, [], _, r.view, ht, fun b H' hb r' =>
    z b H' hb (r.step (fun a o n e => r'.rel.same a o n e) fun b e => (r'.rel.bag b e).2.2)⟩⟩⟩
end
end DL

namespace DL
open PySem PySem.Spec PyProof.Rows L2
section
variable {C : Cq} {X : Cx}
/-! ### for c in a text -/
def chD (x : Str) : List D := x.cps.toList.map fun c => D.str ⟨#[c]⟩
theorem wk_str {x : Str} : WkD C (Its x) (.non, .dat .non) (chD x) := by
  have hl : (chD x).length = x.cps.size := by
    unfold chD
    rw [List.length_map, Array.length_toList]
  refine ⟨fun i H L hi r => by rw [hl] at hi; exact hi, fun H L r => by rw [hl]; exact Nat.le_refl _, fun i H y H' L hi r z => ?_⟩
  obtain ⟨rfl, c, hc, rfl⟩ := z
  refine ⟨.str ⟨#[c]⟩, ?_, r.push (.str _)⟩
  unfold chD
  rw [List.getElem?_map, Array.getElem?_toList, hc]
  rfl
def iS (a : DE) : DI := fun Γ k => a Γ fun d => ∃ x, d = .str x ∧ k (chD x)
theorem id_str {tg l : Expr} {a : DE} (h : ED C X l a) : IDd C X tg l (iS a) := ⟨(pi_str h.pe).weak fun σ H R ⟨Γ, Ts, k, r, h, z⟩ => ⟨Γ, Ts, _, r, h, fun v H' d ⟨x, e, hd⟩ r' => by
  subst e
  cases r'.top1
  exact ⟨x, rfl, z _ _ _ _ hd wk_str rfl (r'.drop.push .non)⟩⟩⟩
/-! ### x not in xs -/
def fNin : F2 := fun x y k => ∃ ds, y = .lst ds ∧ Cmp x ∧ Cmp y ∧ k (.bl (!ds.any fun z => PyData.eqv z.py x.py))
theorem o2_nin : Op2 C (rNotInD C.K) fNin := fun σ H Γ Ts x y d e k Q r ⟨ds, h0, h1, h2, hk⟩ ans => by
  subst h0
  have q := r.top1.dp h2.flat
  unfold D.py at q
  unfold Cmp D.py at h2
  refine ⟨d.py, pyA ds, r.drop.top1.dp h1.flat, q, h1, h2, ?_⟩
  rw [pyA_any]
  exact ans _ _ _ hk (r.drop.drop.bl _)
/-! ### a < b < c -/
def dChain (f g : F2) (a b c : DE) : DE := fun Γ k => a Γ fun x => b Γ fun y => f x y fun z => ∃ t, z = .bl t ∧ if t = true then c Γ fun w => g y w k else k (.bl false)
theorem RS.dup {σ : L2.St} {H : Hp} {Γ : G} {Ts : List (V × B)} {x y : V} {d e : D} (r : RS C σ H Γ ((y, .dat e) :: (x, .dat d) :: Ts)) : RS C σ H Γ ((y, .dat e) :: (x, .dat d) :: (y, .dat e) :: Ts) := by
  have hy := r.top
  have sw : ∀ (p : V) (u : D) L, sh C ((p, B.dat u) :: L) = sh C L := fun _ _ _ => sh_dat
  have hx := r.drop.top
  rw [List.cons_append, sw] at hy
  have r1 : RS C σ H Γ ((y, .dat e) :: Ts) := r.drop.drop.push hy
  have r2 : RS C σ H Γ ((x, .dat d) :: (y, .dat e) :: Ts) := r1.push (by rw [List.cons_append, sw]; exact hx)
  exact r2.push (by rw [List.cons_append, List.cons_append, sw, sw]; exact hy)
theorem chain_go {r r' : R2} {f g : F2} (o : Op2 C r f) (o' : Op2 C r' g) {a b c : DE} : ∀ σ H Q, liftE C (dChain f g a b c) σ H Q → tChain r r' (liftE C a) (liftE C b) (liftE C c) σ H Q := fun σ H Q ⟨Γ, Ts, k, s, hk, ans⟩ =>
  ⟨Γ, Ts, _, s, hk, fun v H1 d hk1 r1 => ⟨Γ, _, _, r1, hk1, fun w H2 e hk2 r2 => o σ H2 Γ ((w, .dat e) :: Ts) v w d e _ _ r2.dup hk2 fun z H3 zd ⟨t, hz, hk3⟩ r3 => by
    subst hz
    cases r3.top1
    refine ⟨t, rfl, ?_⟩
    cases t with
    | true => exact ⟨Γ, _, _, r3.drop, hk3, fun u H4 u' hk4 r4 => o' σ H4 Γ Ts w u e u' k Q r4 hk4 ans⟩
    | false => exact ans _ _ _ hk3 (r3.drop.drop.bl _)⟩⟩
theorem ed_chain {op op' : CmpOp} {r r' : R2} {f g : F2} {x y z : Expr} {a b c : DE} {pos : Pos} (ho : OpR X (compareOp op) r) (o : Op2 C r f) (ho' : OpR X (compareOp op') r') (o' : Op2 C r' g) (ha : ED C X x a) (hb : ED C X y b) (hc : ED C X z c)
    (hm : lastMarks [op, op'] [y, z] = false := by with_unfolding_all rfl) : ED C X (.Compare x [op, op'] [y, z] pos) (dChain f g a b c) := ⟨(pe_chain ho ho' ha.pe hb.pe hc.pe hm).weak (chain_go o o')⟩
theorem td_chain {op op' : CmpOp} {r r' : R2} {f g : F2} {x y z : Expr} {a b c : DE} {pos : Pos} (ho : OpR X (compareOp op) r) (o : Op2 C r f) (ho' : OpR X (compareOp op') r') (o' : Op2 C r' g) (ha : ED C X x a) (hb : ED C X y b) (hc : ED C X z c)
    (hm : lastMarks [op, op'] [y, z] = false := by with_unfolding_all rfl) : TD C X (.Compare x [op, op'] [y, z] pos) (dTest (dChain f g a b c)) :=
  ⟨(pt_chain ho ho' ha.pe hb.pe hc.pe hm).weak fun σ H Q ⟨Γ, Ts, k, s, hk, ans⟩ => chain_go o o' σ H _ ⟨Γ, Ts, _, s, hk, fun v H1 d ⟨b, e, hk1⟩ r1 => by
    subst e
    cases r1.top1
    exact ⟨b, rfl, ans b H1 hk1 r1.drop⟩⟩⟩
/-! ### isinstance(x, (A, B)) -/
theorem ed_isi2 {y z : Str} {T U : String} {e : Expr} {a : DE} {p q1 q2 pt pos : Pos} {kt} (hk : C.K = X.K) (ha : ED C X e a) (hg : Gl X "isinstance") (hm : X.mg "isinstance" = none) (hg2 : Gl X y) (hm2 : X.mg y = none) (hv : bootBuiltins y = some (.type T)) (hT : T ∈ ["int", "bool", "str", "list", "tuple", "dict"])
    (hg3 : Gl X z) (hm3 : X.mg z = none) (hv3 : bootBuiltins z = some (.type U)) (hU : U ∈ ["int", "bool", "str", "list", "tuple", "dict"])
    (hn : y ≠ "__name__" := by decide) (hd : (y == ("__debug__" : Str)) = false := by decide) (hn3 : z ≠ "__name__" := by decide) (hd3 : (z == ("__debug__" : Str)) = false := by decide)
    (hs1 : starEach [.Name y q1, .Name z q2] X.env = (false, eval (.Name y q1) X.env) :: starEach [.Name z q2] X.env := by rfl) (hs2 : starEach [.Name z q2] X.env = (false, eval (.Name z q2) X.env) :: starEach [] X.env := by rfl)
    (he : starEach [e, .Tuple [.Name y q1, .Name z q2] kt pt] X.env = (false, eval e X.env) :: starEach [.Tuple [.Name y q1, .Name z q2] kt pt] X.env := by rfl) (he2 : starEach [.Tuple [.Name y q1, .Name z q2] kt pt] X.env = (false, eval (.Tuple [.Name y q1, .Name z q2] kt pt) X.env) :: starEach [] X.env := by rfl)
    (hpl : (backTo pos (starEach [.Tuple [.Name y q1, .Name z q2] kt pt] X.env)).any (·.1) = false := by rfl) :
    ED C X (.Call (.Name "isinstance" p) [e, .Tuple [.Name y q1, .Name z q2] kt pt] [] pos) (fun Γ k => a Γ fun d => k (.bl (isT T d || isT U d))) :=
  ⟨(pe_callB call_isiTY hg hm (by decide +kernel) (pa_cons ha.pe (pa_cons (pe_tup (pa_cons (pe_bltn (v := .ty T) hg2 hm2 hv rfl hn hd) (pa_cons (pe_bltn (v := .ty U) hg3 hm3 hv3 rfl hn3 hd3) pa_nil hs2) hs1)) pa_nil he2) he) (he := he) (hpl := hpl)).weak fun σ H Q ⟨Γ, Ts, k, r, h, ans⟩ => ⟨Γ, Ts, _, r, h, fun v H' d hd r' => by
    refine ⟨small (by simp), fun tp htp => ?_⟩
    have r2 := r'.grow (upd_keep htp (o := .tup [V.ty T, V.ty U]))
    refine ⟨v, tp, [.ty T, .ty U], tyD d, [.type T, .type U], isT T d || isT U d, rfl, upd_same, .cons (.ty T) (.cons (.ty U) .nil), ?_, ?_, ans _ _ _ hd (r2.drop.bl _)⟩
    · rw [← hk]
      exact tyX_of r2.top1
    · have h1 : PySem.W.kitOne X.K (tyD d) (.type T) = some (isT T d) := by rw [← hk]; exact kit_isT r'.top hT
      have h2 : PySem.W.kitOne X.K (tyD d) (.type U) = some (isT U d) := by rw [← hk]; exact kit_isT r'.top hU
      refine kitAny_cons h1 (fun w => ?_) (fun w => by rw [w]; rfl)
      rw [w, Bool.false_or]
      exact kitAny_cons h2 (fun w2 => by rw [w2]; exact kitAny_nil) (fun w2 => w2)⟩⟩
/-! ### xs * n -/
def fRep : F2 := fun x y k => ∃ ds n, x = .lst ds ∧ y = .int n ∧ -(2 ^ 63) ≤ n ∧ n < 2 ^ 63 ∧ ds.length * n.toNat ≤ 1000000 ∧ k (.lst (List.replicate n.toNat ds).flatten)
theorem RpA.rep {K : PySem.W.Frag} {H : Hp} {vs : List V} {ds : List D} (r : RpA K H vs ds) : ∀ n : Nat, RpA K H (List.replicate n vs).flatten (List.replicate n ds).flatten
  | 0 => .nil
  | n + 1 => by
    rw [List.replicate_succ, List.replicate_succ, List.flatten_cons, List.flatten_cons]
    exact r.append (r.rep n)
theorem o2_rep : Op2 C rRep fRep := fun σ H Γ Ts x y d e k Q r ⟨ds, n, h0, h1, h2, h3, h4, hk⟩ ans => by
  subst h0 h1
  cases r.top1
  have t := r.drop.top
  cases t with
  | @lst a xs _ e q =>
    refine ⟨a, n, xs, rfl, rfl, hid_full _ _ e, h2, h3, ?_, fun p hp => ans _ _ _ hk (r.drop.drop.newL hp (q.rep _))⟩
    rw [q.length]
    exact Nat.le_trans h4 (Nat.le_of_lt sizeL)
/-- one thing, many times over: a tuple -/
def rOneT (K : PySem.W.Frag) : R2 := fun x y H Q => ∃ l k z, x = .ref l ∧ y = .int k ∧ SqT K H l [z] ∧ 2 ≤ k ∧ k ≤ 1000000 ∧ ∀ p, H p = none → Q (.ref p) (upd H p (.tup (List.replicate k.toNat z)))
theorem flat_one {α : Type} (z : α) : ∀ n : Nat, (List.replicate n [z]).flatten = List.replicate n z
  | 0 => rfl
  | n + 1 => by
    rw [List.replicate_succ, List.replicate_succ, List.flatten_cons, flat_one z n]
    rfl
theorem op_oneT : OpR X (binaryOp .Mult) (rOneT X.K) := fun pins s σ H x y v u Q I rx ry ⟨l, k, z, h0, h1, hT, k1, k2, q⟩ => by
  subst h0 h1
  cases rx
  obtain ⟨t, rfl⟩ := ry
  obtain ⟨its, r, ⟨ob, ho, hc, n, hd⟩, _⟩ := I.tuple hT
  obtain ⟨cls, dd, data, sl⟩ := ob
  simp only at hc
  simp only at hd
  subst hc
  subst hd
  obtain ⟨w, rfl, rw'⟩ := r.one
  have g0 : (decide (k < -(2 ^ 63)) || decide (k ≥ 2 ^ 63)) = false := by simp; omega
  have g1 : ((([w] : List Value).toArray).isEmpty || k == 1) = false := by simp; omega
  have g2 : (decide (k ≤ 0) || (([w] : List Value).toArray).isEmpty) = false := by simp; omega
  have g4 : Builtin.Tuple.tupleTooMany ((((([w] : List Value).toArray).size : Nat) : Int) * k) = false := by
    show decide _ = false
    have := sizeL
    simp
    omega
  have fl : (List.replicate k.toNat [w]).flatten.length ≤ sizeLine := by
    have := sizeL
    rw [flat_one, List.length_replicate]
    omega
  refine wpAny_binaryOp_repeat_ref (T := "tuple") (U := "int") (by decide) ⟨_, ho, rfl⟩ (fun s' => typeIs_int s' k t) noFill_tuple_mul F.fills_int_mul F.slot_int_rmul repeat_tuple
    F.slot_int_index.lookup ?_
  refine call_meets F.slot_int_rmul (typeIs_int s k t) F.entry_int_rmul (F.args_int_rmul_2 _ _) (int_rmul_tuple k t l [w].toArray n dd sl) ⟨ho, rfl, ⟨_, ho, rfl⟩, ?_⟩
  refine call_meets F.slot_tuple_mul ⟨_, ho, rfl⟩ F.entry_tuple_mul (F.args_tuple_mul_2 _ _) (tuple_mulW l [w].toArray n dd sl k t g0 g1 g2 ?_ g4 ?_) ⟨ho, ?_⟩
  · simp
    omega
  · rw [size_rep, List.size_toArray]
    exact fl
  · rw [size_rep]
    have I2 := I.laid (h' := s.heap.push { cls := .type "tuple", data := .seq (List.replicate k.toNat [w]).flatten.toArray }) (t' := s.toks) (o := .tup (List.replicate k.toNat z)) (fun b ob e => Heap.get?_push_of_some _ e) (Nat.le_refl _) (by
      refine ⟨by have := sizeL; rw [List.length_replicate]; omega, _, ?_, IsTup.new _ _⟩
      rw [← flat_one z]
      exact r.rep k.toNat)
    exact ⟨.ref s.heap.objs.size, _, I2, rfl, q _ I.fresh⟩
def fOneT : F2 := fun x y k => ∃ d n, x = .tup [d] ∧ y = .int n ∧ 2 ≤ n ∧ n ≤ 1000000 ∧ k (.tup (List.replicate n.toNat d))
theorem RpA.reps {K : PySem.W.Frag} {H : Hp} {v : V} {d : D} (r : Rp K H v d) : ∀ n : Nat, RpA K H (List.replicate n v) (List.replicate n d)
  | 0 => .nil
  | n + 1 => .cons r (RpA.reps r n)
theorem o2_oneT : Op2 C (rOneT C.K) fOneT := fun σ H Γ Ts x y d e k Q r ⟨z, n, h0, h1, h2, h3, hk⟩ ans => by
  subst h0 h1
  cases r.top1
  have t := r.drop.top
  cases t with
  | @tup a xs _ e q =>
    cases q with
    | @cons v _ _ _ q1 q2 =>
      cases q2
      exact ⟨a, n, v, rfl, rfl, SqT.of (hid_full _ _ e), h2, h3, fun p hp => ans _ _ _ hk (r.drop.drop.newT hp (RpA.reps q1 _))⟩
/-! ### x is True -/
theorem op_isBl : OpR X (compareOp .Is) (fun x y H Q => ∃ a b, x = .bl a ∧ y = .bl b ∧ Q (.bl (a == b)) H) := fun pins s σ H x y v u Q I rx ry ⟨a, b, h0, h1, q⟩ => by
  subst h0 h1
  cases rx
  cases ry
  refine wpAny_is_plain rfl ⟨.bl (a == b), H, I, ?_, q⟩
  show Value.bool _ = Value.bool _
  cases a <;> cases b <;> rfl
def fIsBl : F2 := fun x y k => ∃ a b, x = .bl a ∧ y = .bl b ∧ k (.bl (a == b))
theorem o2_isBl : Op2 C (fun x y H Q => ∃ a b, x = .bl a ∧ y = .bl b ∧ Q (.bl (a == b)) H) fIsBl := fun σ H Γ Ts x y d e k Q r ⟨a, b, h0, h1, hk⟩ ans => by
  subst h0 h1
  cases r.top1
  cases r.drop.top1
  exact ⟨a, b, rfl, rfl, ans _ _ _ hk (r.drop.drop.bl _)⟩
/-! ### x + y, of one kind -/
def fAddS : F2 := fun x y k => ∃ s t : Str, x = .str s ∧ y = .str t ∧ s.length + t.length ≤ 1000000 ∧ k (.str (s ++ t))
theorem o2_addS : Op2 C (fun x y H Q => ∃ i j, x = .str i ∧ y = .str j ∧ i.length + j.length ≤ sizeLine ∧ Q (.str (i ++ j)) H) fAddS := fun σ H Γ Ts x y d e k Q r ⟨i, j, h0, h1, hl, hk⟩ ans => by
  subst h0 h1
  cases r.top1
  cases r.drop.top1
  exact ⟨i, j, rfl, rfl, Nat.le_trans hl (Nat.le_of_lt sizeL), ans _ _ _ hk (r.drop.drop.str _)⟩
def fAddL : F2 := fun x y k => ∃ xs ys, x = .lst xs ∧ y = .lst ys ∧ xs.length + ys.length ≤ 1000000 ∧ k (.lst (xs ++ ys))
theorem o2_addL : Op2 C rCat fAddL := fun σ H Γ Ts x y d e k Q r ⟨xs, ys, h0, h1, hl, hk⟩ ans => by
  subst h0 h1
  have tx := r.drop.top
  have ty := r.top
  have sw : sh C ((x, B.dat (.lst xs)) :: Ts ++ pairs σ Γ) = sh C (Ts ++ pairs σ Γ) := sh_dat
  rw [sw] at ty
  cases tx with
  | @lst a us _ e1 q1 =>
    cases ty with
    | @lst b ws _ e2 q2 =>
      exact ⟨a, b, us, ws, rfl, rfl, hid_full _ _ e1, hid_full _ _ e2, by rw [q1.length, q2.length]; exact Nat.le_trans hl (Nat.le_of_lt sizeL), fun p hp => ans _ _ _ hk (r.drop.drop.newL hp (q1.append q2))⟩
/-! ### xs == [] -/
def rEqE (K : PySem.W.Frag) : R2 := fun x y H Q => ∃ p q xs, x = .ref p ∧ y = .ref q ∧ SqL K H p xs ∧ SqL K H q [] ∧ Q (.bl xs.isEmpty) H
theorem op_eqE (hu : X.A.units + 64 < cLine) : OpR X (compareOp .Eq) (rEqE X.K) := fun pins s σ H x y v u Q I rx ry ⟨p, q, xs, h0, h1, h2, h3, hq⟩ => by
  subst h0 h1
  cases rx
  cases ry
  obtain ⟨its, r, pl, _⟩ := I.list h2
  obtain ⟨its2, r2, pl2, _⟩ := I.list h3
  cases r2
  cases r with
  | nil => exact SeqAt.eq_listAt (e := fun _ => true) pl.isList pl2.isList rfl (by omega) (fun j h => by simp at h) ⟨.bl _, H, I, rfl, hq⟩
  | cons r t => exact SeqAt.eq_list_lengthsAt pl.isList pl2.isList (by simp) (by omega) ⟨.bl _, H, I, rfl, hq⟩
def fEqE : F2 := fun x y k => ∃ ds, x = .lst ds ∧ y = .lst [] ∧ k (.bl ds.isEmpty)
theorem o2_eqE : Op2 C (rEqE C.K) fEqE := fun σ H Γ Ts x y d e k Q r ⟨ds, h0, h1, hk⟩ ans => by
  subst h0 h1
  have ty := r.top1
  have tx := r.drop.top1
  cases tx with
  | @lst a xs _ e1 q1 =>
    cases ty with
    | @lst b ys _ e2 q2 =>
      cases q2
      refine ⟨a, b, xs, rfl, rfl, SqL.of e1, SqL.of e2, ?_⟩
      have hl : xs.isEmpty = ds.isEmpty := by cases q1 <;> rfl
      rw [hl]
      exact ans _ _ _ hk (r.drop.drop.bl _)
/-! ### texts: join, split -/
def dJoin (a b : DE) : DE := fun Γ k => a Γ fun x => ∃ s : Str, x = .str s ∧ b Γ fun y => ∃ ys : List Str, y = .lst (ys.map D.str) ∧ (ys.map (·.length)).sum + ys.length * s.length ≤ 16777216 ∧ k (.str (Txt.join s ys))
theorem strs_of {K : PySem.W.Frag} {H : Hp} : ∀ {ns : List Str} {xs : List V}, RpA K H xs (ns.map D.str) → xs = ns.map V.str
  | [], _, .nil => rfl
  | n :: ns, _, .cons r t => by
    cases r
    rw [List.map_cons, strs_of t]
theorem ed_join {o e : Expr} {a b : DE} {apos pos : Pos} (hk : C.K = X.K) (ho : ED C X o a) (he : ED C X e b) (hs : starEach [e] X.env = [(false, eval e X.env)] := by rfl) (hbase : attributeBase o "join" X.env (eval o X.env) = eval o X.env := by rfl) (hline : (apos.endLine == pos.line) = true := by rfl) :
    ED C X (.Call (.Attribute o "join" apos) [e] [] pos) (dJoin a b) :=
  ⟨(pe_join ho.pe he.pe hs hbase hline).weak fun σ H Q ⟨Γ, Ts, k, r, h, ans⟩ => ⟨Γ, Ts, _, r, h, fun v H1 x ⟨z, h1, h2⟩ r1 => by
    subst h1
    cases r1.top1
    refine ⟨⟨_, rfl⟩, Γ, _, _, r1, h2, fun w H2 y ⟨ys, h3, hl, hk2⟩ r2 => ?_⟩
    subst h3
    have t := r2.top
    cases t with
    | @lst p xs _ e q =>
      rw [strs_of q] at e
      exact ⟨z, p, ys, rfl, rfl, .inl (SqL.of (hid_full _ _ e)), hl, ans _ _ _ hk2 (r2.drop.drop.str _)⟩⟩⟩
def dSplit (a b : DE) : DE := fun Γ k => a Γ fun x => ∃ s : Str, x = .str s ∧ b Γ fun y => ∃ t : Str, y = .str t ∧ (t.length == 0) = false ∧ s.length + 2 ≤ 1000000 ∧ k (.lst ((Txt.split s t).map D.str))
theorem RpA.strs {K : PySem.W.Frag} {H : Hp} : ∀ ys : List Str, RpA K H (ys.map V.str) (ys.map D.str)
  | [] => .nil
  | y :: ys => .cons (.str y) (RpA.strs ys)
theorem ed_split {o e : Expr} {a b : DE} {apos pos : Pos} (ho : ED C X o a) (he : ED C X e b) (hs : starEach [e] X.env = [(false, eval e X.env)] := by rfl) (hbase : attributeBase o "split" X.env (eval o X.env) = eval o X.env := by rfl) (hline : (apos.endLine == pos.line) = true := by rfl) :
    ED C X (.Call (.Attribute o "split" apos) [e] [] pos) (dSplit a b) :=
  ⟨(pe_split ho.pe he.pe hs hbase hline).weak fun σ H Q ⟨Γ, Ts, k, r, h, ans⟩ => ⟨Γ, Ts, _, r, h, fun v H1 x ⟨z, h1, h2⟩ r1 => by
    subst h1
    cases r1.top1
    refine ⟨⟨_, rfl⟩, Γ, _, _, r1, h2, fun w H2 y ⟨t, h3, h4, hl, hk2⟩ r2 => ?_⟩
    subst h3
    cases r2.top1
    exact ⟨z, t, rfl, rfl, h4, Nat.le_trans hl (Nat.le_of_lt sizeL), fun p hp => ans _ _ _ hk2 (r2.drop.drop.newL hp (RpA.strs _))⟩⟩⟩
/-! ### dicts written out -/
theorem ed_ofO {e : Expr} {t : DE} (h : OE C X e t) : ED C X e t := ⟨h.pe.weak fun σ H Q ⟨Γ, Ts, k, r, h, ans⟩ => ⟨Γ, Ts, k, r, h, fun v H' d hd r' => by
  obtain ⟨a, rfl, _⟩ := r'.rel.ok _ List.mem_cons_self
  exact ans _ H' d hd ⟨r'.rel.freeze, r'.len, r'.cov⟩⟩⟩
theorem oe_dict0K {pos : Pos} : OE C X (.Dict [] [] pos) (dC (.dK [])) := ⟨pe_dnewK.weak fun σ H Q ⟨Γ, Ts, k, r, h, ans⟩ p hp => ans _ _ _ h (r.newO hp (.dK upd_same rfl .nil))⟩
theorem oe_dict0T {pos : Pos} : OE C X (.Dict [] [] pos) (dC (.dT [])) := ⟨pe_dnewT.weak fun σ H Q ⟨Γ, Ts, k, r, h, ans⟩ p hp => ans _ _ _ h (r.newO hp (.dT upd_same rfl .nil))⟩
def kD : Key → D
  | .inl i => .int i
  | .inr x => .str x
/-- {k: v} -/
def dDict1 (a b : DE) : DE := fun Γ k => a Γ fun x => b Γ fun y => ∃ j : Key, x = kD j ∧ k (.dK [(j, y)])
theorem oe_dict1 {x y : Expr} {a b : DE} {pos : Pos} (ha : ED C X x a) (hb : ED C X y b) : OE C X (.Dict [some x] [y] pos) (dDict1 a b) :=
  ⟨(pe_disp (pps_cons ha.pe hb.pe pps_nil) rfl rfl (by simp) (by simp)).weak fun σ H Q ⟨Γ, Ts, k, r, h, ans⟩ p hp => by
    have r0 : RS C σ (upd H p (.dK [])) Γ ((.ref p, .own (.dK [])) :: Ts) := r.newO hp (.dK upd_same rfl .nil)
    refine ⟨Γ, _, _, r0, h, fun v H1 x h1 r1 => ⟨Γ, _, _, r1, h1, fun w H2 y ⟨j, h2, h3⟩ r2 => ?_⟩⟩
    subst h2
    have sw : ∀ (q : V) (u : D) L, sh C ((q, B.dat u) :: L) = sh C L := fun _ _ _ => sh_dat
    have hv : v = kV j := by
      have t := r2.drop.top1
      cases j with
      | inl i =>
        cases t
        rfl
      | inr z =>
        cases t
        rfl
    have hw := r2.top
    rw [List.cons_append, sw] at hw
    have r3 := r2.drop.drop
    obtain ⟨a', ea, t⟩ := r3.rel.ok _ List.mem_cons_self
    cases ea
    have e2 : H2 p = some (.dK []) := by
      cases t with
      | @dK kvs _ e k0 q =>
        have : kvs = [] := by
          have := congrArg List.length k0
          simpa using this
        rw [this] at e
        exact e
    refine ⟨e2, [(j, w)], by rw [hv]; rfl, by simp, ?_⟩
    exact ans _ _ _ h3 ⟨r3.rel.write (.dK upd_same rfl (.cons hw .nil)), r3.len, r3.cov⟩⟩
end
/-! ### x, y = e, by way of the tuple -/
def sAsg (p : Pat) (a : DE) : DS := fun O Γ => a Γ fun d => ∃ Γ', setP p d Γ = some Γ' ∧ O.nx Γ'
theorem sd_asg {C : Cq} {X : Cx} {p : Pat} {tg e : Expr} {a : DE} {pos : Pos} (he : ED C X e a) (hg : PG X tg (gP C.K p)) (h1 : (assignEach [tg] X.env).map (·.2) = [assign tg X.env] := by rfl) (hs : swapsWithSole [tg] e pos.line X.env = pure false := by rfl) (hw : swappedStores [tg] e X.env = pure none := by rfl) : SD C X (.Assign [tg] e pos) (sAsg p a) :=
  ⟨(ps_asg he.pe hg hs hw h1).weak fun D' σ H ⟨Γ, Ts, O, r, h, n, _⟩ => ⟨Γ, Ts, _, r, h, fun v H' d ⟨Γ', e, hd⟩ r' => pat_go r' e fun σ' r2 _ _ => n _ _ _ hd r2⟩⟩
/-! ### comprehensions that give each item's answer -/
theorem lc_map {p : Pat} {te : DE} {Γ0 : G} {k : D → Prop} (g : D → D) {ds : List D} (hb : ∀ d ∈ ds, ∀ kk : List D → Prop, kk [g d] → ∃ Γ', setP p d Γ0 = some Γ' ∧ dYes Γ' fun b => if b = true then te Γ' fun y => kk [y] else kk [])
    (hk : k (.lst (ds.map g))) : lcK p dYes te Γ0 k ds [] := by
  refine lcK_of (fun d out => out = (fun d => [g d]) d) (fun d hd kk h => hb d hd kk (h _ rfl)) fun outs hg => ?_
  have e := hg.map
  rw [flat_map] at e
  rw [e]
  exact hk
theorem lc_filter {p : Pat} {tt : DT} {te : DE} {Γ0 : G} {k : D → Prop} (c : D → Bool) (g : D → D) {ds : List D} (hb : ∀ d ∈ ds, ∀ kk : List D → Prop, kk (if c d = true then [g d] else []) → ∃ Γ', setP p d Γ0 = some Γ' ∧ tt Γ' fun b => if b = true then te Γ' fun y => kk [y] else kk [])
    (hk : k (.lst ((ds.filter c).map g))) : lcK p tt te Γ0 k ds [] := by
  refine lcK_of (fun d out => out = (fun d => if c d = true then [g d] else []) d) (fun d hd kk h => hb d hd kk (h _ rfl)) fun outs hg => ?_
  have e := hg.map
  rw [flat_filter] at e
  rw [e]
  exact hk
theorem none_left (c : D → Bool) (g : D → D) : ∀ ds : List D, ((ds.filter fun d => !c d).map g).isEmpty = ds.all c
  | [] => rfl
  | d :: ds => by
    have t := none_left c g ds
    by_cases h : c d = true
    · rw [List.filter_cons_of_neg (by simp [h]), List.all_cons, h, Bool.true_and]
      exact t
    · rw [List.filter_cons_of_pos (by simp [h]), List.all_cons]
      simp [h]
end DL

namespace DL
open PySem PySem.Spec PyProof.Rows L2
/-! ### texts of a bounded size -/
def TxB (b : Nat) (s : Str) : Prop := (∀ c ∈ s.cps.toList, c < 0x110000) ∧ s.cps.toList.length ≤ b
theorem TxB.of {b : Nat} {s : Str} (h : s.cps.all (· < 0x110000) = true) (hl : s.cps.size ≤ b) : TxB b s :=
  ⟨fun c hc => of_decide_eq_true (Array.all_eq_true_iff_forall_mem.mp h c (by simpa using hc)), by simpa using hl⟩
theorem TxB.all {b : Nat} {s : Str} (h : TxB b s) : s.cps.all (· < 0x110000) = true := Array.all_eq_true_iff_forall_mem.mpr fun c hc => decide_eq_true (h.1 c (by simpa using hc))
theorem TxB.fit {a b : Nat} {s : Str} (h : TxB b s) : Fit a b (.str s) := Fit.str h.all (by simpa using h.2)
theorem TxB.mono {b c : Nat} {s : Str} (h : TxB b s) (hl : b ≤ c) : TxB c s := ⟨h.1, Nat.le_trans h.2 hl⟩
theorem TxB.one {c : Nat} (h : c < 0x110000) : TxB 1 ⟨#[c]⟩ := ⟨fun d hd => by
  have : d = c := by simpa using hd
  rw [this]
  exact h, by simp⟩
theorem TxB.len {b : Nat} {s : Str} (h : TxB b s) : s.length ≤ b := by
  have := h.2
  rw [Array.length_toList] at this
  exact this
theorem TxB.app {b c : Nat} {s t : Str} (h : TxB b s) (g : TxB c t) : TxB (b + c) (s ++ t) := by
  have e : (s ++ t).cps.toList = s.cps.toList ++ t.cps.toList := Array.toList_append
  refine ⟨fun x hx => ?_, ?_⟩
  · rw [e] at hx
    exact (List.mem_append.mp hx).elim (h.1 x) (g.1 x)
  · rw [e, List.length_append]
    have := h.2
    have := g.2
    omega
theorem TxB.cut {b : Nat} {s : Str} (h : TxB b s) (lo hi : Option Int) : TxB b (cutS s lo hi) := by
  refine ⟨fun x hx => h.1 x (List.mem_of_mem_drop (List.mem_of_mem_take hx)), ?_⟩
  show ((s.cps.toList.drop _).take _).length ≤ b
  have := h.2
  rw [List.length_take, List.length_drop]
  omega
theorem slice_txt {b : Nat} {s : Str} (h : TxB b s) (hb : b ≤ 1000000) (lo hi : Option Int) : sliceD (.str s) lo hi = some (.str (cutS s lo hi)) := by
  have := h.len
  have := sizeL
  exact if_pos (by omega)
theorem ix_txt {b : Nat} {z : Str} {i : Int} {R : D → Prop} (hz : TxB b z) (hb : b ≤ 1000000) (h0 : 0 ≤ i) (h1 : i < (z.cps.toList.length : Nat)) (h : ∀ c, TxB 1 ⟨#[c]⟩ → R (.str ⟨#[c]⟩)) : ∃ x, ixD (.str z) i = some x ∧ R x := by
  have hl := hz.len
  have := sizeL
  have hi : i.toNat < z.cps.toList.length := by omega
  have e : atI z.cps.toList i = some z.cps.toList[i.toNat] := by
    have := atI_nat (xs := z.cps.toList) (j := i.toNat) (v := z.cps.toList[i.toNat]) (List.getElem?_eq_getElem hi)
    rwa [Int.toNat_of_nonneg h0] at this
  refine ⟨.str ⟨#[z.cps.toList[i.toNat]]⟩, ?_, h _ (TxB.one (hz.1 _ (List.getElem_mem hi)))⟩
  show (if z.length ≤ sizeLine then (atI z.cps.toList i).map fun c => D.str ⟨#[c]⟩ else none) = _
  rw [if_pos (by omega), e]
  rfl
theorem TxB.empty {b : Nat} : TxB b "" := by
  refine ⟨fun c hc => ?_, Nat.zero_le _⟩
  have : c ∈ ([] : List Nat) := hc
  cases this
theorem TxB.joined {b : Nat} : ∀ ys : List Str, (∀ y ∈ ys, TxB b y) → TxB (ys.length * b) (Str.join "" ys)
  | [], _ => TxB.empty
  | [x], h => (h x List.mem_cons_self).mono (by simp)
  | x :: y :: r, h => by
    have hx := h x List.mem_cons_self
    have hr := TxB.joined (y :: r) fun z hz => h z (List.mem_cons_of_mem _ hz)
    refine ((hx.app (TxB.empty (b := 0))).app hr).mono ?_
    simp only [List.length_cons, Nat.succ_mul]
    omega
theorem TxB.join {b : Nat} {ys : List Str} (h : ∀ y ∈ ys, TxB b y) : TxB (ys.length * b) (Txt.join "" ys) := by
  rw [show Txt.join "" ys = Str.join "" ys from TL.join_eq _ ys]
  exact TxB.joined ys h
theorem strs_some {b : Nat} : ∀ {outs : List D}, (∀ o ∈ outs, ∃ s, o = .str s ∧ TxB b s) → ∃ ys : List Str, outs = ys.map D.str ∧ ∀ y ∈ ys, TxB b y
  | [], _ => ⟨[], rfl, by simp⟩
  | o :: outs, h => by
    obtain ⟨s, rfl, hs⟩ := h o List.mem_cons_self
    obtain ⟨ys, rfl, hy⟩ := strs_some fun o ho => h o (List.mem_cons_of_mem _ ho)
    exact ⟨s :: ys, rfl, fun y hm => (List.mem_cons.mp hm).elim (fun e => by rw [e]; exact hs) (hy y)⟩
theorem strs_sum {b : Nat} : ∀ {ys : List Str}, (∀ y ∈ ys, TxB b y) → (ys.map fun x => x.length).sum ≤ ys.length * b
  | [], _ => by simp
  | y :: ys, h => by
    have h1 := (h y List.mem_cons_self).len
    have h2 := strs_sum fun z hz => h z (List.mem_cons_of_mem _ hz)
    simp only [List.map_cons, List.sum_cons, List.length_cons, Nat.succ_mul]
    omega
/-! ### parts of lists -/
theorem cutD_mem {xs : List D} {lo hi : Option Int} {x : D} (h : x ∈ cutD xs lo hi) : x ∈ xs := List.mem_of_mem_drop (List.mem_of_mem_take h)
theorem cut_hi {xs : List D} {i : Int} (h : 0 ≤ i) : cutD xs none (some i) = xs.take i.toNat := by
  obtain ⟨n, rfl⟩ : ∃ n : Nat, i = n := ⟨i.toNat, by omega⟩
  unfold cutD
  rw [HT.sIx_nat, HT.sIx_none, Nat.sub_zero, List.drop_zero, Int.toNat_natCast]
  by_cases hn : n ≤ xs.length
  · rw [Nat.min_eq_left hn]
  · rw [Nat.min_eq_right (by omega), List.take_length, List.take_of_length_le (by omega)]
theorem cut_lo {xs : List D} {i : Int} (h : 0 ≤ i) : cutD xs (some i) none = xs.drop i.toNat := by
  obtain ⟨n, rfl⟩ : ∃ n : Nat, i = n := ⟨i.toNat, by omega⟩
  unfold cutD
  rw [HT.sIx_nat, HT.sIx_none, Int.toNat_natCast]
  by_cases hn : n ≤ xs.length
  · rw [Nat.min_eq_left hn]
    exact List.take_of_length_le (by rw [List.length_drop]; exact Nat.le_refl _)
  · rw [Nat.min_eq_right (by omega), Nat.sub_self, List.take_zero, List.drop_of_length_le (by omega)]
theorem Gives.len1 {step : D → List D → Prop} {ds outs : List D} (h : Gives step ds outs) (h1 : ∀ d out, step d out → out.length = 1) : outs.length = ds.length := by
  induction h with
  | nil => rfl
  | cons s _ ih =>
    rw [List.length_append, h1 _ _ s, ih, List.length_cons]
    omega
theorem SFitA.set {a b c : Nat} : ∀ {ds : List D} {d : D} (m : Nat), SFitA a b ds → SFit a c d → SFitA a (b + c) (ds.set m d)
  | [], _, _, h, _ => h.mono (Nat.le_refl _) (by omega)
  | d :: ds, e, 0, h, g => by
    obtain ⟨x, y, hl, h1, h2⟩ := h.uncons
    exact (SFitA.cons g h2).mono (Nat.le_refl _) (by omega)
  | d :: ds, e, m + 1, h, g => by
    obtain ⟨x, y, hl, h1, h2⟩ := h.uncons
    exact (SFitA.cons h1 (h2.set m g)).mono (Nat.le_refl _) (by omega)
theorem SFitA.split {a b : Nat} : ∀ {ds : List D} (n : Nat), SFitA a b ds → ∃ x y, x + y ≤ b ∧ SFitA a x (ds.take n) ∧ SFitA a y (ds.drop n)
  | ds, 0, h => ⟨0, b, by omega, SFitA.nil, h⟩
  | [], n + 1, h => ⟨0, b, by omega, SFitA.nil, h⟩
  | d :: ds, n + 1, h => by
    obtain ⟨c, e, hl, h1, h2⟩ := h.uncons
    obtain ⟨x, y, hl2, h3, h4⟩ := h2.split n
    exact ⟨c + 1 + x, y, by omega, SFitA.cons h1 h3, h4⟩
theorem SFitA.up {a c b : Nat} {ds : List D} (h : SFitA a b ds) (hl : a ≤ c) : SFitA c b ds := h.mono hl (Nat.le_refl _)
theorem SFitA.swap {a b : Nat} {x : D} : ∀ {ds : List D} (m : Nat), ds[m]? = some x → SFitA a b ds → ∃ e, e + 1 ≤ b ∧ SFit a e x ∧ ∀ (a' c : Nat) (r : D), a ≤ a' → SFit a' c r → SFitA a' (b - e + c) (ds.set m r)
  | [], m, e, _ => by simp at e
  | d :: ds, 0, e, h => by
    cases e
    obtain ⟨c, e, hl, h1, h2⟩ := h.uncons
    exact ⟨c, by omega, h1, fun a' c' r ha hr => (SFitA.cons hr (h2.up ha)).mono (Nat.le_refl _) (by omega)⟩
  | d :: ds, m + 1, e, h => by
    obtain ⟨c, e', hl, h1, h2⟩ := h.uncons
    obtain ⟨k, hk, hx, w⟩ := SFitA.swap (ds := ds) m (by simpa using e) h2
    exact ⟨k, by omega, hx, fun a' c' r ha hr => (SFitA.cons (h1.mono ha (Nat.le_refl _)) (w a' c' r ha hr)).mono (Nat.le_refl _) (by omega)⟩
theorem at_ix {ds : List D} {i : Int} (h0 : 0 ≤ i) (h1 : i < (ds.length : Nat)) : ∃ x j, atI ds i = some x ∧ x ∈ ds ∧ ixN ds.length i = some j ∧ ds[j]? = some x := by
  have hi : i.toNat < ds.length := by omega
  have e : atI ds i = some ds[i.toNat] := by
    have := atI_nat (xs := ds) (j := i.toNat) (v := ds[i.toNat]) (List.getElem?_eq_getElem hi)
    rwa [Int.toNat_of_nonneg h0] at this
  have e2 := e
  unfold atI at e2
  cases q : ixN ds.length i with
  | none =>
    rw [q] at e2
    cases e2
  | some j =>
    rw [q] at e2
    exact ⟨_, j, e, List.getElem_mem hi, rfl, e2⟩
theorem SFit.dec {a b : Nat} {d : D} (h : (d.good && d.py.leavesShort 64 && d.py.showable && decide (d.py.depth ≤ a) && decide (d.py.bulk ≤ b)) = true) : SFit a b d := by
  simp only [Bool.and_eq_true, decide_eq_true_eq] at h
  exact ⟨h.1.1.1.1, h.1.1.1.2, h.1.1.2, h.1.2, h.2⟩
theorem SFit.bound {a b : Nat} {d : D} (h : SFit a b d) : SFit d.py.depth d.py.bulk d := ⟨h.1, h.2.1, h.2.2.1, Nat.le_refl _, Nat.le_refl _⟩
end DL

namespace DL
open PySem PySem.Spec PyProof.Rows L2
section
variable {C : Cq} {X : Cx}
/-! ### x + y, tuples -/
def fAddT : F2 := fun x y k => ∃ xs ys, x = .tup xs ∧ y = .tup ys ∧ xs.length + ys.length ≤ 1000000 ∧ k (.tup (xs ++ ys))
theorem o2_addT (hk : C.K = X.K) : Op2 C (rCatA X.K) fAddT := fun σ H Γ Ts x y d e k Q r ⟨xs, ys, h0, h1, hl, hk⟩ ans => by
  subst h0 h1
  have tx := r.drop.top
  have ty := r.top
  have r0 := r.drop.drop
  have sw : sh C ((x, B.dat (.tup xs)) :: Ts ++ pairs σ Γ) = sh C (Ts ++ pairs σ Γ) := sh_dat
  rw [sw] at ty
  cases tx with
  | @tup a us _ e1 q1 =>
    cases ty with
    | @tup b ws _ e2 q2 =>
      refine ⟨a, b, us, ws, rfl, rfl, SqT.of (hid_full _ _ e1), SqT.of (hid_full _ _ e2), by rw [q1.length, q2.length]; exact Nat.le_trans hl (Nat.le_of_lt sizeL), fun z => ?_, fun _ z => ?_, fun _ _ p hp => ans _ _ _ hk (r0.newT hp (q1.append q2))⟩
      · subst z
        cases q1
        exact ans _ _ _ hk (r0.push (.tup e2 q2))
      · subst z
        cases q2
        rw [List.append_nil] at hk
        exact ans _ _ _ hk (r0.push (.tup e1 q1))
/-! ### t == () -/
def rEqT0 (K : PySem.W.Frag) : R2 := fun x y H Q => ∃ p q xs, x = .ref p ∧ y = .ref q ∧ SqT K H p xs ∧ SqT K H q [] ∧ Q (.bl xs.isEmpty) H
theorem op_eqT0 (hu : X.A.units + 64 < cLine) : OpR X (compareOp .Eq) (rEqT0 X.K) := fun pins s σ H x y v u Q I rx ry ⟨p, q, xs, h0, h1, h2, h3, hq⟩ => by
  subst h0 h1
  cases rx
  cases ry
  obtain ⟨its, r, pl, _⟩ := I.tuple h2
  obtain ⟨its2, r2, pl2, _⟩ := I.tuple h3
  cases r2
  refine SeqAt.eq_tupleAt (e := fun _ => true) pl pl2 (by omega) (fun j h h2 => by simp at h2) ⟨.bl xs.isEmpty, H, I, ?_, hq⟩
  have e := r.length
  show Value.bool _ = Value.bool _
  cases xs with
  | nil =>
    cases r
    rfl
  | cons x xs =>
    cases r
    simp
def fEqT0 : F2 := fun x y k => ∃ ds, x = .tup ds ∧ y = .tup [] ∧ k (.bl ds.isEmpty)
theorem o2_eqT0 : Op2 C (rEqT0 C.K) fEqT0 := fun σ H Γ Ts x y d e k Q r ⟨ds, h0, h1, hk⟩ ans => by
  subst h0 h1
  have ty := r.top1
  have tx := r.drop.top1
  cases tx with
  | @tup a xs _ e1 q1 =>
    cases ty with
    | @tup b ys _ e2 q2 =>
      cases q2
      refine ⟨a, b, xs, rfl, rfl, SqT.of e1, SqT.of e2, ?_⟩
      have hl : xs.isEmpty = ds.isEmpty := by cases q1 <;> rfl
      rw [hl]
      exact ans _ _ _ hk (r.drop.drop.bl _)
/-! ### xs[::k], k 1 or -1 -/
def turnV {α : Type} (i : Int) (xs : List α) : List α := if i = 1 then xs else xs.reverse
theorem pick_one (items : Array Value) : slicePick items none none (some 1) = items := (show slicePick items none none (some 1) = slicePick items none none none from rfl).trans (slicePick_all items)
theorem pe_stepL {e z : Expr} {te tz : TE} {p3 pos : Pos} (he : PE X e te) (hz : PE X z tz) : PE X (.Subscript e (.Slice none none (some z) p3) pos)
    (fun σ H Q => te σ H fun x H1 => tz σ H1 fun y H2 => ∃ j, y = .int j ∧ ∃ a xs i, some j = some i ∧ x = .ref a ∧ SqL X.K H2 a xs ∧ (i = 1 ∨ i = -1) ∧ ∀ p, H2 p = none → Q (.ref p) (upd H2 p (.lst (turnV i xs)))) := by
  refine ⟨fun pins s σ H Q I h => ?_⟩
  refine Subscript_ (thn (he.run pins s σ H _ I h) fun v s1 ⟨x, H1, I1, r1, q1⟩ => ?_)
  refine wpAny_Slice (thn (po_none.run pins s1 σ H1 (fun o H2 => o = none ∧ H2 = H1) I1 ⟨rfl, rfl⟩) fun vl s2 ⟨l, H2, I2, pl, el, e2⟩ => ?_)
  subst el e2
  refine thn (po_none.run pins s2 σ H2 (fun o H3 => o = none ∧ H3 = H2) I2 ⟨rfl, rfl⟩) fun vu s3 ⟨u, H3, I3, pu, eu, e3⟩ => ?_
  subst eu e3
  refine thn ((po_some hz).run pins s3 σ H3 (fun o H4 => ∃ a xs i, o = some i ∧ x = .ref a ∧ SqL X.K H4 a xs ∧ (i = 1 ∨ i = -1) ∧ ∀ p, H4 p = none → Q (.ref p) (upd H4 p (.lst (turnV i xs)))) I3 q1) fun vs s4 ⟨o, H4, I4, ps, a, xs, i, eo, ex, hx, hi, q⟩ => ?_
  subst eo ex
  cases r1
  have I5 : Inv X pins σ H4 { s4 with heap := s4.heap.push { cls := .type "slice", data := .fields #[vl, vu, vs] } } := I4.kept (t' := s4.toks) fun b ob q => Heap.get?_push_of_some _ q
  obtain ⟨its, r, ht, hzl⟩ := I5.list hx
  have hlen := r.length
  show wpAny (model X.prog X.w) X.A (subscriptTail e (.Slice none none (some z) p3) (.ref a) (.ref s4.heap.objs.size)) (EP X pins σ Q) X.xe { s4 with heap := s4.heap.push { cls := .type "slice", data := .fields #[vl, vu, vs] } }
  refine tail_any (ops := [.ref a, .ref s4.heap.objs.size]) ht.isList.typeIs (PySem.slot_list_getitem.lookup) ?_ (by with_unfolding_all rfl)
  refine wpAny_getItem_list_slice ht.isList (Heap.IsSliceOf.new _ vl vu vs) pl pu ps (by rcases hi with rfl | rfl <;> decide) ?_ (by rw [List.size_toArray]; omega)
  have ep : slicePick its.toArray none none (some i) = (turnV i its).toArray := by
    rcases hi with rfl | rfl
    · exact pick_one _
    · exact PySem.W.krv_pick _
  have er : Vals (turnV i xs) (turnV i its) := by
    rcases hi with rfl | rfl
    · exact r
    · exact r.reverse
  rw [ep]
  refine ⟨.ref _, _, I5.laid (t' := s4.toks) (o := .lst (turnV i xs)) (fun b ob q => Heap.get?_push_of_some _ q) (Nat.le_refl _) ?_, rfl, q _ (I5.hok.fresh (Nat.le_refl _))⟩
  have el : (turnV i xs).length ≤ sizeLine := by
    unfold turnV
    split
    · exact hzl
    · rw [List.length_reverse]
      exact hzl
  exact ⟨el, _, 0, er, Heap.get?_push_size _ rfl⟩
theorem RpA.rev {K : PySem.W.Frag} {H : Hp} : ∀ {vs : List V} {ds : List D}, RpA K H vs ds → RpA K H vs.reverse ds.reverse
  | _, _, .nil => .nil
  | _, _, .cons r t => by
    rw [List.reverse_cons, List.reverse_cons]
    exact t.rev.append (.cons r .nil)
theorem RpA.turn {K : PySem.W.Frag} {H : Hp} {vs : List V} {ds : List D} (r : RpA K H vs ds) (i : Int) : RpA K H (turnV i vs) (turnV i ds) := by
  unfold turnV
  split
  · exact r
  · exact r.rev
def dStep (a b : DE) : DE := fun Γ k => a Γ fun x => b Γ fun y => ∃ j, y = .int j ∧ ∃ ds, x = .lst ds ∧ (j = 1 ∨ j = -1) ∧ k (.lst (turnV j ds))
theorem ed_step {e z : Expr} {a b : DE} {p3 pos : Pos} (hk : C.K = X.K) (ha : ED C X e a) (hb : ED C X z b) : ED C X (.Subscript e (.Slice none none (some z) p3) pos) (dStep a b) :=
  ⟨(pe_stepL ha.pe hb.pe).weak fun σ H Q ⟨Γ, Ts, k, r, h, ans⟩ => ⟨Γ, Ts, _, r, h, fun v H1 x h1 r1 => ⟨Γ, _, _, r1, h1, fun w H2 y ⟨j, h2, ds, h3, h4, h5⟩ r2 => by
    subst h2 h3
    cases r2.top1
    have tx := r2.drop.top
    cases tx with
    | @lst l xs _ e1 q1 =>
      refine ⟨j, rfl, l, xs, j, rfl, rfl, ?_, h4, fun p hp => ans _ _ _ h5 (r2.drop.drop.newL hp (q1.turn j))⟩
      rw [← hk]
      exact SqL.of (hid_full _ _ e1)⟩⟩⟩
/-! ### xs.index(x) -/
def dIndex (a b : DE) : DE := fun Γ k => a Γ fun x => ∃ ds, x = .lst ds ∧ b Γ fun y => Cmp x ∧ Cmp y ∧ ∃ (j : Nat) (z : D), ds[j]? = some z ∧ PyData.eqv z.py y.py = true ∧ (∀ (m : Nat) (z' : D), m < j → ds[m]? = some z' → PyData.eqv z'.py y.py = false) ∧ k (.int j)
theorem pyA_get (ds : List D) (j : Nat) : (pyA ds)[j]? = (ds[j]?).map D.py := by rw [pyA_map, List.getElem?_map]
theorem ed_index {o e : Expr} {a b : DE} {ap cp : Pos} (hk : C.K = X.K) (hu : X.A.units + 65 < cLine) (ho : ED C X o a) (he : ED C X e b)
    (hbase : attributeBase o "index" X.env (eval o X.env) = eval o X.env := by rfl)
    (hfew : ((backTo cp (starEach [e] X.env)).all (fun x => !x.1) && (backToKw cp (keywordEach [] X.env)).all (fun x => x.1.isSome)
      && decide (([e] : List Expr).length + ([] : List Keyword).length + (if ([] : List Keyword).isEmpty then 0 else 1) < 30)) = true := by rfl)
    (hline : (ap.endLine == cp.line) = true := by rfl) (hs : starEach [e] X.env = (false, eval e X.env) :: starEach [] X.env := by rfl) (hplain : (backTo cp (starEach [] X.env)).any (·.1) = false := by rfl) :
    ED C X (.Call (.Attribute o "index" ap) [e] [] cp) (dIndex a b) :=
  ⟨(pe_bm (T := "list") F.plainAttrs_list F.slot_list_index F.type_list_index (mt_indexD hu) ho.pe (pa_cons he.pe pa_nil hs) hbase hfew hline hs hplain).weak fun σ H Q ⟨Γ, Ts, k, r, h, ans⟩ => ⟨Γ, Ts, _, r, h, fun v H1 x ⟨ds, h1, h2⟩ r1 => by
    subst h1
    have t := r1.top
    cases t with
    | @lst l xs _ e1 q1 =>
      refine ⟨.inl ⟨rfl, xs, ?_⟩, Γ, _, _, r1, h2, fun w H2 y ⟨c1, c2, j, z, h3, h4, h5, h6⟩ r2 => ?_⟩
      · exact SqL.of (hid_full _ _ e1)
      · have tx := r2.drop.top1.dp c1.flat
        unfold D.py at tx
        have c1' := c1
        unfold Cmp D.py at c1'
        have ty := r2.top1.dp c2.flat
        rw [hk] at tx ty
        exact ⟨l, w, y.py, pyA ds, j, z.py, rfl, rfl, tx, ty, c1', c2, by rw [pyA_get, h3]; rfl, h4, fun m z' hm hz => by
          rw [pyA_get] at hz
          cases q : ds[m]? with
          | none =>
            rw [q] at hz
            cases hz
          | some u =>
            rw [q] at hz
            cases hz
            exact h5 m u hm q, ans _ _ _ h6 (r2.drop.drop.int _)⟩⟩⟩
/-! ### x, y, z = a, b, c -/
def sPar3 (i j l : Nat) (t : DA) : DS := fun O Γ => t Γ fun ds => ∃ d e f, ds = [d, e, f] ∧ O.nx (((Γ.set i (some (.dat d))).set j (some (.dat e))).set l (some (.dat f)))
theorem sd_par3 {i j l : Nat} {x y z : Str} {a b c : Expr} {t : DA} {px py pz pt pos : Pos} {kt k2 pt2} (hc : X.calm = true) (hN : X.N.Nodup) (hi : X.N[i]? = some x) (hj : X.N[j]? = some y) (hl : X.N[l]? = some z) (hij : i ≠ j) (hil : i ≠ l) (hjl : j ≠ l)
    (hx : X.env.scope.names.lookup x = some .local) (hy : X.env.scope.names.lookup y = some .local) (hz : X.env.scope.names.lookup z = some .local) (ha : AD C X [a, b, c] t)
    (hw : swappedStores [.Tuple [.Name x px, .Name y py, .Name z pz] kt pt] (.Tuple [a, b, c] k2 pt2) X.env = pure (some [x, y, z]))
    (hs : swapsWithSole [.Tuple [.Name x px, .Name y py, .Name z pz] kt pt] (.Tuple [a, b, c] k2 pt2) pos.line X.env = pure false := by rfl) :
    SD C X (.Assign [.Tuple [.Name x px, .Name y py, .Name z pz] kt pt] (.Tuple [a, b, c] k2 pt2) pos) (sPar3 i j l t) :=
  ⟨(ps_par3 hc hN hi hj hl hij hil hjl hx hy hz ha.pa hw hs).weak fun D' σ H ⟨Γ, Ts, O, r, h, n, _⟩ => ⟨Γ, Ts, _, r, h, fun vs H' ds ⟨d, e, f, hds, hn⟩ ⟨r', q⟩ => by
    subst hds
    cases q with
    | @cons u _ _ _ q1 q2 =>
      cases q2 with
      | @cons w _ _ _ q2 q3 =>
        cases q3 with
        | @cons v _ _ _ q3 q4 =>
          cases q4
          refine ⟨_, _, _, rfl, n _ H' _ hn ?_⟩
          have sw : ∀ (p : V) (u : D) L, sh C ((p, B.dat u) :: L) = sh C L := fun _ _ _ => sh_dat
          have r1 := r'.push q3
          have r2 : RS C σ H' Γ ((w, .dat e) :: (v, .dat f) :: Ts) := r1.push (by rw [List.cons_append, sw]; exact q2)
          have r3 : RS C σ H' Γ ((u, .dat d) :: (w, .dat e) :: (v, .dat f) :: Ts) := r2.push (by rw [List.cons_append, List.cons_append, sw, sw]; exact q1)
          exact ((r3.set i).set j).set l⟩⟩
end
end DL

namespace DL
open PySem PySem.Spec PyProof.Rows L2
theorem lt64 {n m : Nat} (h : n + 64 < m) : n < m := by omega
/-! ### dicts as data: what stands at a key, what is put there -/
section
variable {κ : Type} [DecidableEq κ]
def valG (kds : List (κ × D)) (k : κ) : Option D := (kds.find? fun kv => decide (kv.1 = k)).map (·.2)
def putG (kds : List (κ × D)) (k : κ) (d : D) : List (κ × D) :=
  if (kds.any fun kv => decide (kv.1 = k)) = true then kds.map (fun kv => if kv.1 = k then (kv.1, d) else kv) else kds ++ [(k, d)]
theorem valG_nil {k : κ} : valG ([] : List (κ × D)) k = none := rfl
theorem valG_pos {p : κ × D} {r : List (κ × D)} {k : κ} (e : p.1 = k) : valG (p :: r) k = some p.2 := by simp [valG, List.find?_cons, e]
theorem valG_neg {p : κ × D} {r : List (κ × D)} {k : κ} (e : ¬ p.1 = k) : valG (p :: r) k = valG r k := by simp [valG, List.find?_cons, e]
theorem valG_mem : ∀ {kds : List (κ × D)} {k : κ} {d : D}, valG kds k = some d → (k, d) ∈ kds
  | [], _, _, h => by cases h
  | p :: r, k, d, h => by
    by_cases e : p.1 = k
    · rw [valG_pos e] at h
      cases h
      rw [← e]
      exact List.mem_cons_self
    · rw [valG_neg e] at h
      exact List.mem_cons_of_mem _ (valG_mem h)
theorem valG_putG (k j : κ) (d : D) : ∀ kds : List (κ × D), valG (putG kds k d) j = if j = k then some d else valG kds j := by
  have snoc : ∀ kds : List (κ × D), (kds.any fun kv => decide (kv.1 = k)) = false → valG (kds ++ [(k, d)]) j = if j = k then some d else valG kds j := fun kds => by
    induction kds with
    | nil =>
      intro _
      by_cases e : j = k
      · subst e
        rw [if_pos rfl]
        exact valG_pos (p := (j, d)) rfl
      · rw [if_neg e]
        exact valG_neg (p := (k, d)) fun z => e z.symm
    | cons p r ih =>
      intro h
      rw [List.any_cons, Bool.or_eq_false_iff] at h
      rw [List.cons_append]
      by_cases e : p.1 = j
      · rw [valG_pos e, if_neg (fun z => by rw [← z] at h; simp [e] at h), valG_pos e]
      · rw [valG_neg e, ih h.2, valG_neg e]
  have mp : ∀ kds : List (κ × D), (kds.any fun kv => decide (kv.1 = k)) = true → valG (kds.map fun kv => if kv.1 = k then (kv.1, d) else kv) j = if j = k then some d else valG kds j := fun kds => by
    induction kds with
    | nil => intro h; simp at h
    | cons p r ih =>
      intro h
      rw [List.map_cons]
      by_cases ep : p.1 = k
      · rw [if_pos ep]
        by_cases e : p.1 = j
        · rw [valG_pos (p := (p.1, d)) e, if_pos (e.symm.trans ep)]
        · have ne : ¬ j = k := fun z => e (ep.trans z.symm)
          rw [valG_neg (p := (p.1, d)) e, if_neg ne, valG_neg e]
          have keep : ∀ kds : List (κ × D), valG (kds.map fun kv => if kv.1 = k then (kv.1, d) else kv) j = valG kds j := fun kds => by
            induction kds with
            | nil => rfl
            | cons q s ih2 =>
              rw [List.map_cons]
              by_cases e1 : q.1 = j
              · have : ¬ q.1 = k := fun z => ne (e1.symm.trans z)
                rw [if_neg this, valG_pos e1, valG_pos e1]
              · by_cases e2 : q.1 = k
                · rw [if_pos e2, valG_neg (p := (q.1, d)) e1, valG_neg e1, ih2]
                · rw [if_neg e2, valG_neg e1, valG_neg e1, ih2]
          exact keep r
      · rw [if_neg ep]
        rw [List.any_cons, decide_eq_false ep, Bool.false_or] at h
        by_cases e : p.1 = j
        · rw [valG_pos e, valG_pos e, if_neg (fun z => ep (e.trans z))]
        · rw [valG_neg e, valG_neg e, ih h]
  intro kds
  unfold putG
  by_cases h : (kds.any fun kv => decide (kv.1 = k)) = true
  · rw [if_pos h, mp kds h]
  · rw [if_neg h, snoc kds (Bool.eq_false_iff.mpr h)]
theorem putG_len (k : κ) (d : D) (kds : List (κ × D)) : (putG kds k d).length ≤ kds.length + 1 := by
  unfold putG
  split
  · rw [List.length_map]
    omega
  · rw [List.length_append]
    simp
theorem val_rel {K : PySem.W.Frag} {H : Hp} : ∀ {kvs : List (κ × V)} {kds : List (κ × D)}, kvs.map (·.1) = kds.map (·.1) → RpA K H (kvs.map (·.2)) (kds.map (·.2)) → ∀ k, (valV kvs k = none ∧ valG kds k = none) ∨ ∃ v d, valV kvs k = some v ∧ valG kds k = some d ∧ Rp K H v d
  | [], [], _, _, _ => .inl ⟨rfl, rfl⟩
  | [], q :: s, e, _, _ => by simp at e
  | p :: r, [], e, _, _ => by simp at e
  | p :: r, q :: s, e, h, k => by
    rw [List.map_cons, List.map_cons, List.cons.injEq] at e
    rw [List.map_cons, List.map_cons] at h
    cases h with
    | cons h1 h2 =>
      by_cases ek : p.1 = k
      · exact .inr ⟨p.2, q.2, valV_pos ek, valG_pos (e.1 ▸ ek), h1⟩
      · rw [valV_neg ek, valG_neg (e.1 ▸ ek)]
        exact val_rel e.2 h2 k
theorem put_keys {kvs : List (κ × V)} {kds : List (κ × D)} (e : kvs.map (·.1) = kds.map (·.1)) (k : κ) (v : V) (d : D) : (putK kvs k v).map (·.1) = (putG kds k d).map (·.1) := by
  have ea : (kvs.any fun kv => decide (kv.1 = k)) = kds.any fun kv => decide (kv.1 = k) := by
    have h : ∀ {α : Type} (l : List (κ × α)), (l.any fun kv => decide (kv.1 = k)) = (l.map (·.1)).any fun x => decide (x = k) := fun l => by rw [List.any_map]; rfl
    rw [h, h, e]
  have em : ∀ {α : Type} (l : List (κ × α)) (x : α), (l.map fun kv => if kv.1 = k then (kv.1, x) else kv).map (·.1) = l.map (·.1) := fun l x => by
    rw [List.map_map]
    refine List.map_congr_left fun p _ => ?_
    show (if p.1 = k then (p.1, x) else p).1 = p.1
    split <;> rfl
  unfold putK putG
  rw [ea]
  split
  · rw [em, em, e]
  · rw [List.map_append, List.map_append, e]
    rfl
theorem put_vals {K : PySem.W.Frag} {H : Hp} {kvs : List (κ × V)} {kds : List (κ × D)} (e : kvs.map (·.1) = kds.map (·.1)) (h : RpA K H (kvs.map (·.2)) (kds.map (·.2))) (k : κ) {v : V} {d : D} (r : Rp K H v d) : RpA K H ((putK kvs k v).map (·.2)) ((putG kds k d).map (·.2)) := by
  have ea : (kvs.any fun kv => decide (kv.1 = k)) = kds.any fun kv => decide (kv.1 = k) := by
    have h : ∀ {α : Type} (l : List (κ × α)), (l.any fun kv => decide (kv.1 = k)) = (l.map (·.1)).any fun x => decide (x = k) := fun l => by rw [List.any_map]; rfl
    rw [h, h, e]
  have go : ∀ {kvs : List (κ × V)} {kds : List (κ × D)}, kvs.map (·.1) = kds.map (·.1) → RpA K H (kvs.map (·.2)) (kds.map (·.2)) → RpA K H ((kvs.map fun kv => if kv.1 = k then (kv.1, v) else kv).map (·.2)) ((kds.map fun kv => if kv.1 = k then (kv.1, d) else kv).map (·.2)) := fun {kvs} => by
    induction kvs with
    | nil =>
      intro kds e h
      cases kds with
      | nil => exact .nil
      | cons => simp at e
    | cons p q ih =>
      intro kds e h
      cases kds with
      | nil => simp at e
      | cons a s =>
        rw [List.map_cons, List.map_cons, List.cons.injEq] at e
        rw [List.map_cons, List.map_cons] at h
        cases h with
        | cons h1 h2 =>
          rw [List.map_cons, List.map_cons, List.map_cons, List.map_cons]
          refine .cons ?_ (ih e.2 h2)
          by_cases ek : p.1 = k
          · rw [if_pos ek, if_pos (e.1 ▸ ek)]
            exact r
          · rw [if_neg ek, if_neg (e.1 ▸ ek)]
            exact h1
  unfold putK putG
  rw [ea]
  split
  · exact go e h
  · rw [List.map_append, List.map_append]
    exact h.append (.cons r .nil)
end
theorem kD_V {K : PySem.W.Frag} {H : Hp} {v : V} {j : Key} (r : Rp K H v (kD j)) : v = kV j := by
  cases j with
  | inl i =>
    cases r
    rfl
  | inr z =>
    cases r
    rfl
theorem rd_dK {K : PySem.W.Frag} {H : Hp} {v : V} {kds : List (Key × D)} (r : Rp K H v (.dK kds)) : ∃ a kvs, v = .ref a ∧ Rd H a (.dK kvs) ∧ kvs.map (·.1) = kds.map (·.1) ∧ RpA K H (kvs.map (·.2)) (kds.map (·.2)) := by
  cases r with
  | dK e k q => exact ⟨_, _, rfl, e, k, q⟩
section
variable {C : Cq} {X : Cx}
/-! ### d.get(k, x) -/
def dGet2 (a b c : DE) : DE := fun Γ k => a Γ fun x => ∃ kds, x = .dK kds ∧ b Γ fun y => ∃ j, y = kD j ∧ c Γ fun z => k ((valG kds j).getD z)
theorem ed_get2 {o e f : Expr} {a b c : DE} {ap cp : Pos} (hu : X.A.units + 65 < cLine) (ho : ED C X o a) (he : ED C X e b) (hf : ED C X f c)
    (m1 : attributeBase o "get" X.env (eval o X.env) = eval o X.env := by rfl)
    (m2 : ((backTo cp (starEach [e, f] X.env)).all (fun x => !x.1) && (backToKw cp (keywordEach [] X.env)).all (fun x => x.1.isSome)
      && decide (([e, f] : List Expr).length + ([] : List Keyword).length + (if ([] : List Keyword).isEmpty then 0 else 1) < 30)) = true := by rfl)
    (m3 : (ap.endLine == cp.line) = true := by rfl) (m4 : backTo cp (starEach [e, f] X.env) = [(false, eval e X.env), (false, eval f X.env)] := by rfl) :
    ED C X (.Call (.Attribute o "get" ap) [e, f] [] cp) (dGet2 a b c) :=
  ⟨(pe_dget2 (by omega) ho.pe he.pe hf.pe ⟨m1, m2, m3, m4⟩).weak fun σ H Q ⟨Γ, Ts, k, r, h, ans⟩ => ⟨Γ, Ts, _, r, h, fun v H1 x ⟨kds, h1, h2⟩ r1 => by
    subst h1
    obtain ⟨d, kvs, rfl, e1, _, _⟩ := rd_dK r1.top1
    refine ⟨d, rfl, .inl ⟨kvs, e1⟩, Γ, _, _, r1, h2, fun w H2 y ⟨j, h3, h4⟩ r2 => ⟨Γ, _, _, r2, h4, fun u H3 z h5 r3 => ?_⟩⟩
    subst h3
    have ey := kD_V r3.drop.top1
    subst ey
    have td := r3.drop.drop.top
    obtain ⟨d', kvs', ed, e1', e2', e3'⟩ := rd_dK td
    cases ed
    refine ⟨valV kvs' j, .inl ⟨kvs', j, rd_mono hid_full e1', rfl, rfl⟩, ?_⟩
    have base := r3.drop.drop.drop
    rcases val_rel e2' e3' j with ⟨q1, q2⟩ | ⟨v, d, q1, q2, q3⟩
    · rw [q1]
      rw [q2] at h5
      have tz := r3.top
      have sw : ∀ (p : V) (u : D) L, sh C ((p, B.dat u) :: L) = sh C L := fun _ _ _ => sh_dat
      rw [List.cons_append, List.cons_append, sw, sw] at tz
      exact ans _ _ _ h5 (base.push tz)
    · rw [q1]
      rw [q2] at h5
      exact ans _ _ _ h5 (base.push q3)⟩⟩
/-! ### k in d, d[k] -/
def dInK (a b : DE) : DE := fun Γ k => a Γ fun y => b Γ fun x => ∃ kds j, x = .dK kds ∧ y = kD j ∧ k (.bl (valG kds j).isSome)
theorem inK_go {a b : DE} : ∀ σ H Q, liftE C (dInK a b) σ H Q → tDIn (liftE C a) (liftE C b) σ H Q := fun σ H Q ⟨Γ, Ts, k, r, h, ans⟩ => ⟨Γ, Ts, _, r, h, fun v H1 y h1 r1 => ⟨Γ, _, _, r1, h1, fun w H2 x ⟨kds, j, h2, h3, h4⟩ r2 => by
    subst h2 h3
    obtain ⟨d, kvs, rfl, e1, e2, e3⟩ := rd_dK r2.top1
    have ey := kD_V r2.drop.top1
    subst ey
    refine ⟨d, valV kvs j, rfl, .inl ⟨kvs, j, e1, rfl, rfl⟩, ?_⟩
    have es : (valV kvs j).isSome = (valG kds j).isSome := by
      rcases val_rel e2 e3 j with ⟨q1, q2⟩ | ⟨v, d, q1, q2, q3⟩ <;> rw [q1, q2] <;> rfl
    rw [es]
    exact ans _ _ _ h4 (r2.drop.drop.bl _)⟩⟩
theorem ed_inK {i o : Expr} {a b : DE} {pos : Pos} (hu : X.A.units + 65 < cLine) (ha : ED C X i a) (hb : ED C X o b) (h1 : behindInMarks .In o = false := by rfl) : ED C X (.Compare i [.In] [o] pos) (dInK a b) :=
  ⟨(L2.pe_cmp (pc_din (by omega) ha.pe hb.pe) h1).weak inK_go⟩
theorem td_inK {i o : Expr} {a b : DE} {pos : Pos} (hu : X.A.units + 65 < cLine) (ha : ED C X i a) (hb : ED C X o b) (h1 : behindInMarks .In o = false := by rfl) : TD C X (.Compare i [.In] [o] pos) (dTest (dInK a b)) :=
  ⟨(L2.pt_cmp (pc_din (by omega) ha.pe hb.pe) h1).weak fun σ H Q ⟨Γ, Ts, k, s, hk, ans⟩ => inK_go σ H _ ⟨Γ, Ts, _, s, hk, fun v H1 d ⟨b, e, hk1⟩ r1 => by
    subst e
    cases r1.top1
    exact ⟨b, rfl, ans b H1 hk1 r1.drop⟩⟩⟩
def dGetK (a b : DE) : DE := fun Γ k => a Γ fun x => b Γ fun y => ∃ kds j d, x = .dK kds ∧ y = kD j ∧ valG kds j = some d ∧ k d
theorem ed_getK {o i : Expr} {a b : DE} {pos : Pos} (hu : X.A.units + 65 < cLine) (ha : ED C X o a) (hb : ED C X i b) (hs : NoSl i) : ED C X (.Subscript o i pos) (dGetK a b) :=
  ⟨(pe_dget (by omega) ha.pe hb.pe hs).weak fun σ H Q ⟨Γ, Ts, k, r, h, ans⟩ => ⟨Γ, Ts, _, r, h, fun v H1 x h1 r1 => ⟨Γ, _, _, r1, h1, fun w H2 y ⟨kds, j, d, h2, h3, h4, h5⟩ r2 => by
    subst h2 h3
    have ey := kD_V r2.top1
    subst ey
    obtain ⟨a, kvs, rfl, e1, e2, e3⟩ := rd_dK r2.drop.top
    rcases val_rel e2 e3 j with ⟨q1, q2⟩ | ⟨v, d', q1, q2, q3⟩
    · rw [q2] at h4
      cases h4
    · rw [q2] at h4
      cases h4
      exact ⟨a, v, rfl, .inl ⟨kvs, j, rd_mono hid_full e1, rfl, q1.symm⟩, ans _ _ _ h5 (r2.drop.drop.push q3)⟩⟩⟩⟩
/-! ### d != e, of equal dicts of plain things -/
def fNeDA : F2 := fun x y k => ∃ kds : List (Key × D), x = .dK kds ∧ y = .dK kds ∧ (kds.map (·.1)).Nodup ∧ (∀ p ∈ kds, p.2.plain = true) ∧ k (.bl false)
theorem plain_same {K : PySem.W.Frag} {H H' : Hp} {v w : V} {d : D} (h : d.plain = true) (r : Rp K H v d) (s : Rp K H' w d) : v = w ∧ flatB v = true := by
  cases r with
  | non =>
    cases s
    exact ⟨rfl, rfl⟩
  | bl b =>
    cases s
    exact ⟨rfl, rfl⟩
  | int i =>
    cases s
    exact ⟨rfl, rfl⟩
  | str x =>
    cases s
    exact ⟨rfl, rfl⟩
  | _ => cases h
theorem same_vals {K : PySem.W.Frag} {H : Hp} : ∀ {ks ls : List (Key × V)} {kds : List (Key × D)}, ks.map (·.1) = kds.map (·.1) → ls.map (·.1) = kds.map (·.1) → RpA K H (ks.map (·.2)) (kds.map (·.2)) → RpA K H (ls.map (·.2)) (kds.map (·.2)) → (∀ p ∈ kds, p.2.plain = true) → ks = ls ∧ ∀ p ∈ ks, flatB p.2 = true
  | [], ls, [], _, e2, _, _, _ => by
    cases ls with
    | nil => exact ⟨rfl, fun p h => by cases h⟩
    | cons => simp at e2
  | [], _, _ :: _, e1, _, _, _, _ => by simp at e1
  | _ :: _, _, [], e1, _, _, _, _ => by simp at e1
  | k :: ks, [], _ :: _, _, e2, _, _, _ => by simp at e2
  | k :: ks, l :: ls, q :: kds, e1, e2, h1, h2, hp => by
    rw [List.map_cons, List.map_cons, List.cons.injEq] at e1 e2
    rw [List.map_cons, List.map_cons] at h1 h2
    cases h1 with
    | cons a1 b1 =>
      cases h2 with
      | cons a2 b2 =>
        obtain ⟨i1, i2⟩ := same_vals e1.2 e2.2 b1 b2 fun p h => hp p (List.mem_cons_of_mem _ h)
        obtain ⟨j1, j2⟩ := plain_same (hp q List.mem_cons_self) a1 a2
        refine ⟨by rw [i1, show k = l from Prod.ext (e1.1.trans e2.1.symm) j1], fun p h => ?_⟩
        rcases List.mem_cons.mp h with rfl | h
        · exact j2
        · exact i2 p h
theorem valV_nd {κ : Type} [DecidableEq κ] : ∀ {ks : List (κ × V)}, (ks.map (·.1)).Nodup → ∀ p ∈ ks, valV ks p.1 = some p.2
  | [], _, p, h => by cases h
  | q :: ks, hn, p, h => by
    rw [List.map_cons, List.nodup_cons] at hn
    rcases List.mem_cons.mp h with rfl | h
    · exact valV_pos rfl
    · have : ¬ q.1 = p.1 := fun z => hn.1 (by rw [z]; exact List.mem_map.mpr ⟨p, h, rfl⟩)
      rw [valV_neg this]
      exact valV_nd hn.2 p h
def rNeDR : R2 := fun x y H Q => ∃ a b ks ls, x = .ref a ∧ y = .ref b ∧ Rd H a (.dK ks) ∧ Rd H b (.dK ls) ∧ ks.length = ls.length ∧ (∀ p ∈ ks, valV ls p.1 = some p.2 ∧ flatB p.2 = true) ∧ Q (.bl false) H
theorem op_ne_dictR (hu : X.A.units < cLine) : OpR X (compareOp .NotEq) rNeDR := by
  intro pins s σ H x y v u Q I rx ry h
  obtain ⟨a, b, ks, ls, rfl, rfl, ea, eb, hlen, hp, q⟩ := h
  obtain rfl : v = Value.ref a := rx
  obtain rfl : u = Value.ref b := ry
  obtain ⟨_, ya, va, ra, da⟩ := dk_rd I.hok ea
  obtain ⟨_, yb, vb, rb, db⟩ := dk_rd I.hok eb
  have hl : va.length = vb.length := by rw [← Paired.length ra, ← Paired.length rb]; exact hlen
  exact PySem.W.keq_ne (knd := mixKind X.prog X.w) (r := true) ya yb da db hu (fun _ => hits_all rb ra hp) (fin_bl I q (by simp [hl]))
theorem o2_neDA : Op2 C rNeDR fNeDA := fun σ H Γ Ts x y d e k Q r ⟨kds, h0, h1, h2, h3, hk⟩ ans => by
  subst h0 h1
  obtain ⟨b, ls, rfl, e1, e2, e3⟩ := rd_dK r.top1
  obtain ⟨a, ks, rfl, f1, f2, f3⟩ := rd_dK r.drop.top1
  obtain ⟨rfl, g⟩ := same_vals f2 e2 f3 e3 h3
  refine ⟨a, b, ks, ks, rfl, rfl, f1, e1, rfl, fun p hp => ⟨valV_nd (by rw [f2]; exact h2) p hp, g p hp⟩, ans _ _ _ hk (r.drop.drop.bl _)⟩
/-! ### dict(d), dict(pairs) -/
def fDictD : FB := fun ds k => ∃ kds : List (Key × D), ds = [.dK kds] ∧ k (.dK kds)
theorem cc_dictD : CallC C (fun xs H Q => ∃ (a : Addr) (kvs : List (Key × V)), xs = [.ref a] ∧ Rd H a (.dK kvs) ∧ ∀ p, H p = none → Q (.ref p) (upd H p (.dK kvs))) fDictD := fun σ H Γ Ts vs ds k Q q ⟨kds, h0, hk⟩ ans => by
  subst h0
  obtain ⟨v, rfl, t⟩ := q.one
  obtain ⟨a, kvs, rfl, e1, e2, e3⟩ := rd_dK t
  refine ⟨a, kvs, rfl, rd_mono hid_full e1, fun p hp => ans _ _ _ hk ((q.1.grow (upd_keep hp)).push ?_)⟩
  exact .dK (.inl (hid_mk (q.1.out hp) upd_same)) e2 (e3.mono (hid_mono (fun _ z => z) fun a o _ e => upd_keep hp a o e))
def mergeG (kds more : List (Key × D)) : List (Key × D) := more.foldl (fun acc kv => putG acc kv.1 kv.2) kds
theorem merge_rel {K : PySem.W.Frag} {H : Hp} : ∀ {ms : List (Key × V)} {md : List (Key × D)} {kvs : List (Key × V)} {kds : List (Key × D)}, ms.map (·.1) = md.map (·.1) → RpA K H (ms.map (·.2)) (md.map (·.2)) → kvs.map (·.1) = kds.map (·.1) → RpA K H (kvs.map (·.2)) (kds.map (·.2)) →
    (mergeK kvs ms).map (·.1) = (mergeG kds md).map (·.1) ∧ RpA K H ((mergeK kvs ms).map (·.2)) ((mergeG kds md).map (·.2))
  | [], [], _, _, _, _, e, h => ⟨e, h⟩
  | [], _ :: _, _, _, e1, _, _, _ => by simp at e1
  | _ :: _, [], _, _, e1, _, _, _ => by simp at e1
  | p :: ms, q :: md, kvs, kds, e1, h1, e, h => by
    rw [List.map_cons, List.map_cons, List.cons.injEq] at e1
    rw [List.map_cons, List.map_cons] at h1
    cases h1 with
    | cons a b =>
      have g1 := put_keys e p.1 p.2 q.2
      have g2 := put_vals e h p.1 a
      have e0 : p.1 = q.1 := e1.1
      rw [e0] at g1 g2
      have := merge_rel (kvs := putK kvs q.1 p.2) (kds := putG kds q.1 q.2) e1.2 b g1 g2
      unfold mergeK mergeG at this ⊢
      rw [List.foldl_cons, List.foldl_cons, e0]
      exact this
def pairD (kv : Key × D) : D := .tup [kD kv.1, kv.2]
def fDictP : FB := fun ds k => ∃ kds : List (Key × D), ds = [.lst (kds.map pairD)] ∧ k (.dK (mergeG [] kds))
theorem pairs_rel {K : PySem.W.Frag} {H : Hp} : ∀ {xs : List V} {kds : List (Key × D)}, RpA K H xs (kds.map pairD) → ∃ (ps : List Addr) (kvs : List (Key × V)), xs = ps.map V.ref ∧ Paired (fun p kv => SqT K H p [kV kv.1, kv.2]) ps kvs ∧ kvs.map (·.1) = kds.map (·.1) ∧ RpA K H (kvs.map (·.2)) (kds.map (·.2))
  | [], [], _ => ⟨[], [], rfl, .nil, rfl, .nil⟩
  | [], _ :: _, h => by
    rw [List.map_cons] at h
    cases h
  | x :: xs, [], h => by
    rw [List.map_nil] at h
    cases h
  | x :: xs, q :: kds, h => by
    rw [List.map_cons] at h
    cases h with
    | cons h1 h2 =>
      obtain ⟨ps, kvs, rfl, p1, p2, p3⟩ := pairs_rel h2
      unfold pairD at h1
      cases h1 with
      | @tup a ys _ e r =>
        cases r with
        | cons r1 r2 =>
          cases r2 with
          | @cons w _ _ _ r2 r3 =>
            cases r3
            have := kD_V r1
            subst this
            exact ⟨a :: ps, (q.1, w) :: kvs, rfl, .cons (SqT.of e) p1, by rw [List.map_cons, List.map_cons, p2], .cons r2 p3⟩
theorem Paired.imp {α β : Type} {R S : α → β → Prop} (h : ∀ a b, R a b → S a b) : ∀ {xs : List α} {ys : List β}, Paired R xs ys → Paired S xs ys
  | _, _, .nil => .nil
  | _, _, .cons r t => .cons (h _ _ r) (Paired.imp h t)
theorem _root_.L2.SqT.full {K : PySem.W.Frag} {S : Addr → Prop} {H : Hp} {a : Addr} {xs : List V} (h : SqT K (hid S H) a xs) : SqT K H a xs := by
  rcases h with (h | ⟨o, h⟩) | h
  · exact .inl (.inl (hid_full _ _ h))
  · exact .inl (.inr ⟨o, hid_full _ _ h⟩)
  · exact .inr h
theorem cc_dictP : CallC C (fun xs H Q => ∃ (a : Addr) (ps : List Addr) (kvs : List (Key × V)), xs = [.ref a] ∧ SqL C.K H a (ps.map V.ref) ∧ Paired (fun p kv => SqT C.K H p [kV kv.1, kv.2]) ps kvs ∧ ∀ p, H p = none → Q (.ref p) (upd H p (.dK (mergeK [] kvs)))) fDictP := fun σ H Γ Ts vs ds k Q q ⟨kds, h0, hk⟩ ans => by
  subst h0
  obtain ⟨v, rfl, t⟩ := q.one
  cases t with
  | @lst a ys _ e q2 =>
    obtain ⟨ps, kvs, rfl, p1, p2, p3⟩ := pairs_rel q2
    obtain ⟨m1, m2⟩ := merge_rel (kvs := []) (kds := []) p2 p3 rfl .nil
    refine ⟨a, ps, kvs, rfl, SqL.of (hid_full _ _ e), Paired.imp (fun _ _ z => SqT.full z) p1, fun p hp => ans _ _ _ hk ((q.1.grow (upd_keep hp)).push ?_)⟩
    exact .dK (.inl (hid_mk (q.1.out hp) upd_same)) m1 (m2.mono (hid_mono (fun _ z => z) fun a o _ e => upd_keep hp a o e))
/-! ### (*xs, ..) -/
def dStar (a : DE) (t : DA) : DA := fun Γ k => a Γ fun x => ∃ xs, (x = .tup xs ∨ x = .lst xs) ∧ t Γ fun ys => k (xs ++ ys)
def stk : List V → List D → List (V × B)
  | v :: vs, d :: ds => (v, .dat d) :: stk vs ds
  | _, _ => []
theorem owns_stk : ∀ (vs : List V) (ds : List D) (L : List (V × B)), owns (stk vs ds ++ L) = owns L
  | [], _, _ => rfl
  | _ :: _, [], _ => rfl
  | v :: vs, d :: ds, L => by
    show owns ((v, B.dat d) :: (stk vs ds ++ L)) = _
    rw [owns_dat, owns_stk vs ds L]
theorem sh_stk {C : Cq} (vs : List V) (ds : List D) (L : List (V × B)) : sh C (stk vs ds ++ L) = sh C L := by
  funext a
  unfold sh
  rw [owns_stk]
theorem RS.pushAll {σ : L2.St} {H : Hp} {Γ : G} {Ts : List (V × B)} : ∀ {vs : List V} {ds : List D}, RS C σ H Γ Ts → RpA C.K (hid (sh C (Ts ++ pairs σ Γ)) H) vs ds → RS C σ H Γ (stk vs ds ++ Ts)
  | [], _, r, _ => r
  | _ :: _, [], r, q => by cases q
  | v :: vs, d :: ds, r, q => by
    cases q with
    | cons q1 q2 =>
      have r1 := r.pushAll q2
      refine r1.push ?_
      rw [List.append_assoc, sh_stk]
      exact q1
theorem RS.popAll {σ : L2.St} {H : Hp} {Γ : G} {Ts : List (V × B)} : ∀ {vs : List V} {ds : List D}, vs.length = ds.length → RS C σ H Γ (stk vs ds ++ Ts) → RS C σ H Γ Ts ∧ RpA C.K (hid (sh C (Ts ++ pairs σ Γ)) H) vs ds
  | [], [], _, r => ⟨r, .nil⟩
  | [], _ :: _, hl, _ => by cases hl
  | _ :: _, [], hl, _ => by cases hl
  | v :: vs, d :: ds, hl, r => by
    have r' : RS C σ H Γ ((v, .dat d) :: (stk vs ds ++ Ts)) := r
    obtain ⟨r1, q⟩ := r'.drop.popAll (Nat.succ.inj hl)
    have t := r'.top
    rw [List.append_assoc, sh_stk] at t
    exact ⟨r1, .cons t q⟩
theorem ad_star {e : Expr} {es : List Expr} {a : DE} {t : DA} {p : Pos} (hk : C.K = X.K) (ha : ED C X e a) (ht : AD C X es t) (hs : starEach (.Starred e p :: es) X.env = (true, eval e X.env) :: starEach es X.env := by rfl) : AD C X (.Starred e p :: es) (dStar a t) :=
  ⟨(StX.pa_star ha.pe ht.pa hs).weak fun σ H Q ⟨Γ, Ts, k, r, h, ans⟩ => ⟨Γ, Ts, _, r, h, fun v H1 x ⟨xs, h1, h2⟩ r1 => by
    have e : sh C ((v, B.dat x) :: Ts ++ pairs σ Γ) = sh C (Ts ++ pairs σ Γ) := sh_dat
    have main : ∀ ws, RpA C.K (hid (sh C (Ts ++ pairs σ Γ)) H1) ws xs → liftA C t σ H1 fun ys H2 => Q (ws ++ ys) H2 := fun ws q0 => ⟨Γ, stk ws xs ++ Ts, _, r1.drop.pushAll q0, h2, fun vs H2 ds hk2 ⟨r2, q⟩ => by
      obtain ⟨r3, q3⟩ := r2.popAll q0.length
      rw [List.append_assoc, sh_stk] at q
      exact ans _ H2 _ hk2 ⟨r3, q3.append q⟩⟩
    rcases h1 with rfl | rfl
    · have t1 := r1.top
      cases t1 with
      | @tup a ws _ e1 q1 => exact ⟨a, ws, rfl, .inl (by rw [← hk]; exact SqT.of (hid_full _ _ e1)), main ws q1⟩
    · have t1 := r1.top
      cases t1 with
      | @lst a ws _ e1 q1 => exact ⟨a, ws, rfl, .inr (by rw [← hk]; exact SqL.of (hid_full _ _ e1)), main ws q1⟩⟩⟩
/-! ### x is not True -/
def fIsNotBl : F2 := fun x y k => ∃ a b, x = .bl a ∧ y = .bl b ∧ k (.bl (!(a == b)))
theorem o2_isNotBl : Op2 C rNotB fIsNotBl := fun σ H Γ Ts x y d e k Q r ⟨a, b, h0, h1, hk⟩ ans => by
  subst h0 h1
  cases r.top1
  cases r.drop.top1
  refine ⟨a, b, rfl, rfl, ?_⟩
  have e : (!decide (a = b)) = !(a == b) := by cases a <;> cases b <;> rfl
  first
    | (rw [e]; exact ans _ _ _ hk (r.drop.drop.bl _))
    | (have e2 : decide (a ≠ b) = !(a == b) := by cases a <;> cases b <;> rfl
       rw [e2]; exact ans _ _ _ hk (r.drop.drop.bl _))
    | exact ans _ _ _ hk (r.drop.drop.bl _)
/-! ### {k: v for ..} -/
def dcK (p : Pat) (tt : DT) (tk tv : DE) (Γ0 : G) (k : D → Prop) : List D → List (Key × D) → Prop
  | [], acc => k (.dK acc)
  | d :: r, acc => ∃ Γ', setP p d Γ0 = some Γ' ∧ tt Γ' fun b => if b = true then tk Γ' fun y => ∃ j, y = kD j ∧ tv Γ' fun z => dcK p tt tk tv Γ0 k r (putG acc j z) else dcK p tt tk tv Γ0 k r acc
def dDc (p : Pat) (ti : DI) (tt : DT) (tk tv : DE) (vs : List Nat) : DE := fun Γ k => ti Γ fun ds => ds.length ≤ 1000000 ∧ dcK p tt tk tv (wipeG Γ vs) k ds []
theorem RelL.mineK {H : Hp} {L : List (V × B)} {a : Addr} {ds : List (Key × D)} (r1 : RelL C H ((.ref a, .own (.dK ds)) :: L)) : ∃ kvs, H a = some (.dK kvs) ∧ kvs.map (·.1) = ds.map (·.1) ∧ RpA C.K (hid (sh C ((.ref a, .own (.dK ds)) :: L)) H) (kvs.map (·.2)) (ds.map (·.2)) := by
  obtain ⟨a', ea, t⟩ := r1.ok _ List.mem_cons_self
  cases ea
  cases t with
  | dK e k q => exact ⟨_, e, k, q⟩
theorem dc_go {p : Pat} {ti : DI} {tt : DT} {tk tv : DE} {vs : List Nat} (hp : ∀ j ∈ p.slots, j ∈ vs) (σ : L2.St) (H : Hp) (Q : VK) (h : liftE C (dDc p ti tt tk tv vs) σ H Q) :
    tDc (liftI C ti) (gP C.K p) (liftT C tt) (liftE C tk) (liftE C tv) vs σ H Q := by
  obtain ⟨Γ, Ts, k, r, h, ans⟩ := h
  refine ⟨Γ, Ts, _, r, h, fun J H1 tmp ds ⟨hlen, hd⟩ w ho r1 D hD => ?_⟩
  obtain ⟨e, pe, r2⟩ := r1.inBlk vs
  have r3 : RS C (wipe σ vs) (upd H1 D (.dK [])) (wipeG Γ vs) ((.ref D, .own (.dK [])) :: tmp :: (Ts ++ e)) := ⟨r2.rel.newOwn1 hD (.dK upd_same rfl .nil), r2.len, r2.cov⟩
  refine ⟨fun i m H => m = ds.length - i ∧ i ≤ ds.length ∧ ∃ acc : List (Key × DL.D), acc.length ≤ i ∧ RS C (wipe σ vs) H (wipeG Γ vs) ((.ref D, .own (.dK acc)) :: tmp :: (Ts ++ e)) ∧ dcK p tt tk tv (wipeG Γ vs) k (ds.drop i) acc,
    ⟨ds.length, rfl, Nat.zero_le _, [], Nat.le_refl _, r3, hd⟩, ?_⟩
  rintro i m H ⟨rfl, hle, acc, hacc, r4, h4⟩
  have r4' : RelL C H (tmp :: ((.ref D, .own (.dK acc)) :: ((Ts ++ e) ++ pairs (wipe σ vs) (wipeG Γ vs)))) := r4.rel.sub Sub.swap
  by_cases hlt : i < ds.length
  · refine .inr ⟨w.goes i H _ hlt r4', fun H => ∃ acc : List (Key × DL.D), acc.length ≤ i + 1 ∧ RS C (wipe σ vs) H (wipeG Γ vs) ((.ref D, .own (.dK acc)) :: tmp :: (Ts ++ e)) ∧ dcK p tt tk tv (wipeG Γ vs) k (ds.drop (i + 1)) acc,
      fun H' z => ⟨ds.length - (i + 1), by omega, rfl, hlt, z⟩, fun x H2 y => ?_⟩
    obtain ⟨d, ed, r5⟩ := w.yields i H x H2 _ hlt r4' y
    have edr : ds.drop i = d :: ds.drop (i + 1) := by
      obtain ⟨hl, e'⟩ := List.getElem?_eq_some_iff.mp ed
      rw [← e']
      exact List.drop_eq_getElem_cons hl
    rw [edr] at h4
    obtain ⟨Γ2, e2, h5⟩ := h4
    have r6 : RS C (wipe σ vs) H2 (wipeG Γ vs) ((x, .dat d) :: (.ref D, .own (.dK acc)) :: tmp :: (Ts ++ e)) := ⟨r5.sub (Sub.cons Sub.swap), r4.len, r4.cov⟩
    refine pat_go r6 e2 fun σ3 r7 o1 o2 => ⟨?_, ?_⟩
    · exact (wipe_off (o1.mono hp)).trans rfl
    · have back : ∀ {H : Hp} {Us : List (V × B)}, RS C σ3 H Γ2 Us → RS C (wipe σ vs) H (wipeG Γ vs) Us := fun {H Us} z => by
        have z2 := z.wiped vs
        rw [wipe_off (o1.mono hp), wipeG_off (o2.mono hp)] at z2
        exact z2
      refine ⟨Γ2, _, _, r7, h5, fun b H3 h6 r8 => ?_⟩
      cases b with
      | false => exact ⟨acc, Nat.le_succ_of_le hacc, back r8, h6⟩
      | true =>
        refine ⟨Γ2, _, _, r8, h6, fun y H4 dy ⟨j, h7, h8⟩ r9 => ⟨Γ2, _, _, r9, h8, fun z H5 dz h9 r10 => ?_⟩⟩
        subst h7
        have ey := kD_V r10.drop.top1
        subst ey
        have rb := (back r10)
        have sw : ∀ (p : V) (u : DL.D) L, sh C ((p, B.dat u) :: L) = sh C L := fun _ _ _ => sh_dat
        have tz := rb.top
        rw [List.cons_append, sw] at tz
        have rq := rb.drop.drop
        obtain ⟨kvs, f1, f2, f3⟩ := rq.rel.mineK
        refine ⟨kvs, j, rfl, f1, ?_, putG acc j dz, ?_, ⟨rq.rel.write (.dK upd_same (put_keys f2 j z dz) (put_vals f2 f3 j tz)), rq.len, rq.cov⟩, h9⟩
        · have := sizeL
          have := congrArg List.length f2
          rw [List.length_map, List.length_map] at this
          omega
        · have := putG_len j dz acc
          omega
  · have en : ds.drop i = [] := List.drop_eq_nil_of_le (by omega)
    rw [en] at h4
    have ei : i = ds.length := by omega
    refine .inl ⟨by rw [ei]; exact w.stops H _ r4', ans _ _ _ h4 ?_⟩
    have f := r4.rel.freeze
    refine ⟨f.sub ?_, r1.len, r1.cov⟩
    refine Sub.cons ?_
    refine ⟨[tmp], ?_⟩
    have q : ((Ts ++ e) ++ pairs (wipe σ vs) (wipeG Γ vs)).Perm (Ts ++ pairs σ Γ) := by
      rw [List.append_assoc]
      exact (pe.symm).append_left Ts
    exact (q.cons tmp).trans (List.perm_append_singleton tmp _).symm
theorem ed_dc {p : Pat} {kx vx tg iter : Expr} {ifs : List Expr} {scope : Scope} {own : List (Str × Nat)} {pos : Pos} {ti : DI} {tt : DT} {tk tv : DE} (hc : X.calm = true) (hN : X.N.Nodup) (hi : IDd C X tg iter ti) (ok : BlkOk X.N X.env.scope scope own)
    (hg : ∀ (s : Shared) (H : Hp) (A : Addr) (cl : List (Str × Addr)) (fp : List Addr), PG (X.blk s H scope (compEnvC scope cl A X.env) fp) tg (gP C.K p)) (ht : ∀ (s : Shared) (H : Hp) (A : Addr) (cl : List (Str × Addr)) (fp : List Addr), TsD C (X.blk s H scope (compEnvC scope cl A X.env) fp) ifs tt)
    (hk : ∀ (s : Shared) (H : Hp) (A : Addr) (cl : List (Str × Addr)) (fp : List Addr), ED C (X.blk s H scope (compEnvC scope cl A X.env) fp) kx tk)
    (he : ∀ (s : Shared) (H : Hp) (A : Addr) (cl : List (Str × Addr)) (fp : List Addr), ED C (X.blk s H scope (compEnvC scope cl A X.env) fp) vx tv) (hp : p.slots.all (fun j => (own.map (·.2)).contains j) = true := by rfl) (hs : ∀ x, foldedSetIterable iter X.env x = pure x := by intro _; rfl) :
    ED C X (.DictComp kx vx [⟨tg, iter, ifs, 0⟩] scope pos) (dDc p ti tt tk tv (own.map (·.2))) :=
  ⟨(pe_dc hc hN hi.pi ok hg (fun a b c d e => (ht a b c d e).pts) (fun a b c d e => (hk a b c d e).pe) (fun a b c d e => (he a b c d e).pe) hs).weak (dc_go fun j hj => by simpa using List.all_eq_true.mp hp j hj)⟩
theorem dc_map {p : Pat} {tk tv : DE} {Γ0 : G} {k : D → Prop} (f : D → Key) (g : D → D) : ∀ {ds : List D} {acc : List (Key × D)},
    (∀ d ∈ ds, ∀ kk : Key → D → Prop, kk (f d) (g d) → ∃ Γ', setP p d Γ0 = some Γ' ∧ tk Γ' fun y => ∃ j, y = kD j ∧ tv Γ' fun z => kk j z) →
    k (.dK (ds.foldl (fun acc d => putG acc (f d) (g d)) acc)) → dcK p dYes tk tv Γ0 k ds acc
  | [], _, _, hk => hk
  | d :: ds, acc, hb, hk => by
    obtain ⟨Γ', e, h⟩ := hb d List.mem_cons_self (fun j z => dcK p dYes tk tv Γ0 k ds (putG acc j z)) (dc_map f g (fun e he => hb e (List.mem_cons_of_mem _ he)) hk)
    exact ⟨Γ', e, h⟩
end
end DL

namespace DL
open PySem PySem.Spec PyProof.Rows L2
/-! ### exceptions of own classes as values: with no field, or with one that holds the very value it was made of -/
def ExAt (H : Hp) (a C : Addr) : Option (Str × V) → Prop
  | none => H a = some (exo a C none)
  | some (f, y) => ∃ dx, H a = some (exo a C (some dx)) ∧ H dx = some (exd dx [(f, y)])
theorem ExAt.mono {H H' : Hp} {a C : Addr} {m : Option (Str × V)} (h : ExAt H a C m) (k : ∀ b o, H b = some o → H' b = some o) : ExAt H' a C m := by
  cases m with
  | none => exact k _ _ h
  | some p =>
    obtain ⟨dx, h1, h2⟩ := h
    exact ⟨dx, k _ _ h1, k _ _ h2⟩
theorem ExAt.at {X : Cx} {pins : List (Addr × Obj)} {σ : L2.St} {H : Hp} {s : Shared} {a C : Addr} {m : Option (Str × V)} (I : Inv X pins σ H s) (h : ExAt H a C m) : ∃ ox od, PySem.W.InstAt s.heap a ox C od ∧
    ∀ f y, m = some (f, y) → ∃ ob u, od = some ob ∧ PySem.W.lookIn f ob = some (some u) ∧ RelV y u := by
  cases m with
  | none =>
    obtain ⟨t, e⟩ := exo_at I.hok h
    exact ⟨_, none, ⟨e, rfl, rfl, trivial⟩, fun _ _ z => by cases z⟩
  | some p =>
    obtain ⟨f, y⟩ := p
    obtain ⟨dx, h1, h2⟩ := h
    obtain ⟨t, e⟩ := exo_at I.hok h1
    obtain ⟨mA, ns, rel⟩ := exd_at I.hok h2
    obtain ⟨ob, eo, look⟩ := lookIn_ns ns
    obtain ⟨u, hu, ru⟩ := RelO.some_of (v := y) (o := mA f) (by have q := rel f; rwa [lookup_put, if_pos rfl] at q)
    refine ⟨_, some ob, ⟨e, rfl, rfl, eo⟩, fun f' y' z => ?_⟩
    cases z
    exact ⟨ob, u, rfl, by rw [look, hu], ru⟩
section
open PySem.Calls
variable {prog : Program} {w : World} {A : Around} {E : Value → Shared → Prop} {K : PySem.W.Frag} {x D : Addr} {ox : Obj} {od : Option Obj}
theorem exc_found (T : ExcC K D) : PySem.W.findObj K D od "__class__" = some (.bind (.builtin "getset_descriptor.__get__") (.builtin "object.__class__")) := by
  have hc : (PySem.W.clsIn K D).isSome = true := by
    obtain ⟨cd, hc, _⟩ := PySem.W.any_some T.hd
    rw [hc]; rfl
  cases od with
  | none => exact PySem.W.findObj_dataN hc T.ha T.hn T.ht
  | some ob => exact PySem.W.findObj_data hc T.ha T.hn T.ht
theorem exc_class {s : Shared} {Q : Option Value → Shared → Prop} (T : ExcC K D) (kin : K.In s.heap) (J : PySem.W.InstAt s.heap x ox D od) (k : Q (some (.ref D)) { s with toks := s.toks + 1 }) :
    wpAny (model prog w) A (getAttr? (.ref x) "__class__") Q E s := by
  have found := exc_found (od := od) T
  obtain ⟨hp, g, d, t, os⟩ := s
  have l0 := J.type (M := model prog w); have l1 := PySem.W.looks_findIn (M := model prog w) kin T.hg
  have l2 := PySem.W.looks_findIn (M := model prog w) kin T.hk; have l3 := PySem.W.looks_find (M := model prog w) kin J found
  have under : PySem.W.Looks (model prog w) hp (isInstance (.ref x) (.type "BaseException")) true := l0.andThen (PySem.W.looks_subIn kin T.hs)
  have no2 : (Value.builtin "BaseException.__getattribute__" == Value.builtin "object.__getattribute__") = false := by decide +kernel
  have no1 : (onTheHeap (Value.ref D) && Value.builtin "BaseException.__getattribute__" == Value.builtin "object.__getattribute__") = false := by rw [no2]; rfl
  have no0 : (false && onTheHeap (Value.builtin "BaseException.__getattribute__")) = false := rfl
  unfold getAttr? getAttrBy? getAttrBy; refine wpAny_bind (wpAny_mkText (wpAny_bind (wpAny_attempt (wpAny_holding (wpAny_bind (l0.at (wpAny_bind (l1.at ?_))))))))
  show wpAny _ _ (if (onTheHeap (Value.ref D) && Value.builtin "BaseException.__getattribute__" == Value.builtin "object.__getattribute__") = true then _ else _) _ _ _; rw [no1, if_neg Bool.false_ne_true]
  unfold getAttrByItsOwn hookBefore; refine wpAny_bind ?_
  rw [if_pos (show onTheHeap (Value.ref D) = true from rfl)]; refine l2.at ?_
  refine wpAny_bind (wpAny_attempt (wpAny_holding ?_)); unfold callGetattribute
  rw [no0, if_neg Bool.false_ne_true]; unfold boundAndCalled
  rw [PySem.F.excAttr_ValueError.ga.bind (.ref x)]; refine wpAny_bind (wpAny_pure ?_)
  show wpAny _ _ (call (.builtin "BaseException.__getattribute__") [.ref x, .str "__class__" t]) _ _ _; refine wpAny_call (codeAny_call_builtin PySem.F.excAttr_ValueError.ga.plain PySem.F.entry_bexc_ga ?_)
  refine @PySem.W.check_slot (model prog w) _ _ ⟨hp, g, d, t + 1, os⟩ "BaseException.__getattribute__" "BaseException" "__getattribute__" (.ref x) [.str "__class__" t] [] _ (by decide +kernel) (by decide +kernel) under (PySem.F.args_bexc_ga (.ref x) (.str "__class__" t)) ?_
  unfold Builtin.«object.__getattribute__»; refine wpAny_bind (wpAny_of_eq (a := ((Value.ref x : Value), [Value.str "__class__" t])) (by first | rfl | (simp only [slotArgs]; rfl)) ?_)
  refine wpAny_bind (wpAny_pure (wpAny_bind (l0.at (wpAny_bind (l3.at ?_))))); show wpAny _ _ (holding [Value.builtin "object.__class__"] (call (.builtin "getset_descriptor.__get__") [.builtin "object.__class__", .ref x, .ref D]) >>= ret) _ _ _
  refine wpAny_bind (wpAny_holding (wpAny_call (PySem.W.class_get (s := ⟨hp, g, d, t + 1, os⟩) (ox := ox) (od := od) kin J T.hm ?_))); refine wpAny_pure ?_
  show wpAny _ _ (handedOut (.ref D)) _ _ _; rw [PySem.W.handedOut_of (v := .ref D) rfl]
  first
    | exact wpAny_pure (wpAny_pure k)
    | exact wpAny_pure k
    | exact wpAny_pure (wpAny_bind (wpAny_pure (wpAny_pure k)))
theorem exc_kit (T : ExcC K D) : PySem.W.KitX K (.ref x) (.ref D) (fun h => ∃ ox od, PySem.W.InstAt h x ox D od) := by
  obtain ⟨cd, hc, _⟩ := PySem.W.any_some T.hd
  have obj : ∃ oc od' sl, K.lookup D = some ⟨oc, od', .cls cd, sl⟩ := by
    unfold PySem.W.clsIn at hc
    split at hc
    · rename_i c1 d1 cd1 sl1 ho
      cases hc
      exact ⟨_, _, _, ho⟩
    · cases hc
  obtain ⟨oc, od', sl, ho⟩ := obj
  refine { ty := fun _ _ _ ⟨_, _, J⟩ => J.type, it := fun _ _ kin _ => ?_, ne := fun h tp dd its n sl kin htp => Bool.eq_false_iff.mpr fun q => ?_, ca := fun kin ⟨_, _, J⟩ k => exc_class T kin J k }
  · intro A' Q' E' s' k q
    unfold isType loadHead
    exact wpAny_bind (wpAny_loadPart (k _ _ (kin _ _ ho)) (wpAny_pure q))
  · have e : D = tp := Value.ref.inj (beq_iff_eq.mp q)
    subst e
    have z := (kin _ _ ho).symm.trans htp
    cases z
end
/-- isinstance(e, c) -/
def rIsX (K : PySem.W.Frag) : List V → Hp → VK → Prop := fun xs H Q => ∃ (a C : Addr) (m : Option (Str × V)) (c : V) (u : Value) (b : Bool), xs = [.ref a, c] ∧ ExAt H a C m ∧ ExcC K C ∧ ClsV c u ∧ PySem.W.kitOne K (.ref C) u = some b ∧ Q (.bl b) H
section
variable {X : Cx}
theorem call_isX : CallR X (.builtin "isinstance") (rIsX X.K) := by
  intro pins s σ H xs us Q I r h
  obtain ⟨a, C, m, c, u, b, rfl, e, T, k, q, hq⟩ := h
  obtain ⟨u1, u2, rfl, r1, r2⟩ := vals2 r
  have e2 := k.eq r2
  subst e2
  cases r1
  obtain ⟨ox, od, J, _⟩ := e.at I
  exact PySem.W.kia_one (exc_kit T) I.kIn ⟨ox, od, J⟩ q (fun z => nomatch z) fun tk => ⟨.bl b, H, I.tok tk, rfl, hq⟩
/-- e.f -/
def tExF (K : PySem.W.Frag) (f : Str) (te : TE) : TE := fun σ H Q => te σ H fun x H1 => ∃ (a C : Addr) (y : V), x = .ref a ∧ ExAt H1 a C (some (f, y)) ∧ ExcC K C ∧ PySem.W.findIn K (.ref C) f = some none ∧ Q y H1
theorem pe_exf {e : Expr} {te : TE} {f : Str} {pos : Pos} (he : PE X e te) (hb : attributeBase e f X.env (eval e X.env) = eval e X.env := by rfl) : PE X (.Attribute e f pos) (tExF X.K f te) := by
  refine ⟨fun pins s σ H Q I h => attr_of hb (thn (he.run pins s σ H _ I h) fun u s1 hh => ?_)⟩
  obtain ⟨x, H1, I1, rx, a, C, y, ex, ea, T, no, q⟩ := hh
  subst ex
  cases rx
  obtain ⟨ox, od, J, look⟩ := ea.at I1
  obtain ⟨ob, u, eo, lk, ru⟩ := look f y rfl
  subst eo
  exact HandSPX.exc_get I1.kIn J T.hg T.hk T.hs (PySem.W.findObj_own T.hd no rfl lk) (handed_of ru) ⟨y, H1, I1.tok _, ru, q⟩
/-- C(): a class of the built-in making -/
theorem pe_exc0 {C : Addr} {x : Str} {p pos : Pos} {bmB : List Value} (F : ExcBaseFacts "ValueError" "ValueError.__new__" "ValueError.__init__" bmB) (q : PySem.W.excIn X.K C bmB "ValueError.__new__" = true) (gC : X.mg x = some (.ref C)) (kC : PySem.W.keepIn X.K (.ref C) = true) (hg : Gl X x) (hdb : (x == ("__debug__" : Str)) = false := by decide) :
    PE X (.Call (.Name x p) [] [] pos) (fun _ H Q => ∀ a, H a = none → Q (.ref a) (upd H a (exo a C none))) := by
  refine ⟨fun pins s σ H Q I h => wpAny_Call_Name_kw (ld_glob I hg gC ?_ hdb)⟩
  refine PySem.W.callWith_K0 I.kIn kC ?_
  show wpAny _ _ (call (.ref C) []) _ _ _
  obtain ⟨bm, N, nm, qn, bs, hdct, sn, sub, ab, col, dd, k0, k1, k2, k3, k5, mN, hC, hN, hni, T⟩ := exc_obj I.kIn q
  refine wpAny_call_exc_subT F T hC hN hni (fun h' a hm => ?_) (by show 0 ≤ sizeLine; omega)
  obtain ⟨t, ht, _, _⟩ := hm.there
  exact ⟨.ref a, upd H a (exo a C none), I.laidN hm.keeps hm.new (I.hok.gone hm.new) (exo_ok ht), rfl, h a (I.hok.gone hm.new)⟩
/-! making by an own __init__ -/
def spInit (K : PySem.W.Frag) (C : Addr) (f : Str) : Sp := fun vs H Q _ => ∃ (a : Addr) (y : V), vs = [.ref a, y] ∧ H a = some (exo a C none) ∧ OexC K C ∧ PySem.W.findIn K (.ref C) f = some none ∧
  ∀ dx, H dx = none → dx ≠ a → Q .non (upd (upd H dx (exd dx [(f, y)])) a (exo a C (some dx)))
def tNew (C : Addr) (f : Str) (ta : TA) : TE := fun σ H Q => ta σ H fun vs H1 => ∃ y, vs = [y] ∧ ∀ a H2, (∀ b o, H1 b = some o → H2 b = some o) → H1 a = none → ExAt H2 a C (some (f, y)) → Q (.ref a) H2
theorem pe_new {x : Str} {C fI : Addr} {k : Nat} {fd : FuncData} {ps : List Str} {f : Str} {e : Expr} {ta : TA} {p pos : Pos} (T : OexC X.K C) (no : PySem.W.findIn X.K (.ref C) f = some none) (iC : PySem.W.findIn X.K (.ref C) "__init__" = some (some (.ref fI))) (tI : PySem.W.typeIn X.K (.ref fI) = some (.type "function"))
    (F1 : FnG X.prog X.w X.K X.mg X.base CX0 k fI fd ps (spInit X.K C f)) (hst : Still X.base X.A) (hr : Room (k + 1) X.A) (hb : Binds X.K fd ps []) (hg : Gl X x) (hm : X.mg x = some (.ref C)) (ha : PA X [e] ta)
    (hdb : (x == ("__debug__" : Str)) = false := by decide) (he : starEach [e] X.env = (false, eval e X.env) :: starEach [] X.env := by rfl) (hpl : (backTo pos (starEach [] X.env)).any (·.1) = false := by rfl) :
    PE X (.Call (.Name x p) [e] [] pos) (tNew C f ta) := by
  refine ⟨fun pins s σ H Q I h => ?_⟩
  obtain ⟨nm, q, N, bs, bm, sn, sub, ab, col, dd, k0, k1, k2, k3, k5, hC, hbm⟩ := T.cls
  refine wpAny_Call_Name_kw (ld_glob I hg hm ?_ hdb)
  refine PySem.W.callWith_K (h₀ := X.base) I.ok.mod.kin T.kC (thn (ha.run pos pins s σ H _ I h) fun us s1 ⟨vs, H1, I1, r1, y, ev, ans⟩ => ⟨I1.kIn, ?_⟩) he hpl
  subst ev
  obtain ⟨u, rfl, ry⟩ := vals1 r1
  show wpAny _ _ (call (.ref C) [u]) _ _ _
  obtain ⟨hp, g, dr, tk, os⟩ := s1
  have new : H1 (hp.objs.size + 1) = none := I1.hok.fresh (Nat.le_succ _)
  have kk : ∀ b o, hp.get? b = some o → ((hp.push (PySem.W.kdv_tup [u])).push (PySem.HandSPX.excO C hp.objs.size)).get? b = some o := fun b o z => Heap.get?_push_of_some _ (Heap.get?_push_of_some _ z)
  have there : ((hp.push (PySem.W.kdv_tup [u])).push (PySem.HandSPX.excO C hp.objs.size)).get? (hp.objs.size + 1) = some (PySem.HandSPX.excO C hp.objs.size) := by heap_get
  have I2 : Inv X pins σ (upd H1 (hp.objs.size + 1) (exo (hp.objs.size + 1) C none)) ⟨(hp.push (PySem.W.kdv_tup [u])).push (PySem.HandSPX.excO C hp.objs.size), g, dr, tk, os⟩ :=
    I1.laid (t' := tk) (a := hp.objs.size + 1) (o := exo (hp.objs.size + 1) C none) (h' := (hp.push (PySem.W.kdv_tup [u])).push (PySem.HandSPX.excO C hp.objs.size)) kk (Nat.le_succ _) (exo_ok there)
  have asks : spInit X.K C f [V.ref (hp.objs.size + 1), y] (upd H1 (hp.objs.size + 1) (exo (hp.objs.size + 1) C none)) (fun v H2 => v = .non ∧ Q (.ref (hp.objs.size + 1)) H2) E0 := by
    refine ⟨_, y, rfl, upd_same, T, no, fun dx nd ne => ⟨rfl, ans _ _ (fun b o z => ?_) new ⟨dx, upd_same, ?_⟩⟩⟩
    · have hb1 : b ≠ hp.objs.size + 1 := ne_of_none z new
      have hb2 : b ≠ dx := ne_of_none (show upd H1 (hp.objs.size + 1) (exo (hp.objs.size + 1) C none) b = some o by rw [upd_ne hb1]; exact z) nd
      rw [upd_ne hb1, upd_ne hb2, upd_ne hb1]
      exact z
    · rw [upd_ne ne, upd_same]
  have r2 : Vals [V.ref (hp.objs.size + 1), y] [Value.ref (hp.objs.size + 1), u] := .cons rfl (.cons ry .nil)
  have hl : ([Value.ref (hp.objs.size + 1), u] ++ ([] : List Value)).length = ps.length := by
    have e := r2.length
    rw [F1.len _ _ _ _ asks] at e
    exact e.symm
  refine wpAny_call (PySem.HandSPX.call_own F.excBase_ValueError (fun Y => PySem.HandSPX.refsVE_contains Y bm hbm) (I1.kIn _ _ hC) (PySem.W.looks_findIn I1.kIn iC) (fun self => PySem.W.bind_fn I1.kIn self tI) (by show 1 ≤ sizeLine; rw [sizeLine_eq]; omega)
    (codeAny_mono (F1.run _ X.stack _ _ ⟨[Value.ref (hp.objs.size + 1), u], []⟩ [Value.ref (hp.objs.size + 1), u] _ _ E0 hst (hr.make C [u] []) (I2.env0.make C [u] []) (hb _ [Value.ref (hp.objs.size + 1), u] I2.kIn hl) r2 asks) fun r s' hq' => ?_))
  cases r with
  | error er => exact (pass0 (X := X)) pins σ _ _ er s' I2 hq'
  | ok fl =>
    cases fl with
    | ret v0 =>
      obtain ⟨v, H2, J, rv, ev, hq⟩ := I2.after hq'
      subst ev
      exact ⟨rv, .ref (hp.objs.size + 1), H2, J, rfl, hq⟩
    | next => exact False.elim hq'
    | brk => exact False.elim hq'
    | cont => exact False.elim hq'
end
end DL

namespace DL
open PySem PySem.Spec PyProof.Rows L2
/-! ### steps by hand among those over data: what is tracked by a look at the heap stands through a data step -/
def KeepX (H H' : Hp) : Prop := ∀ a φ, H a = some (.ext φ) → H' a = some (.ext φ)
theorem KeepX.refl {H : Hp} : KeepX H H := fun _ _ e => e
theorem KeepX.trans {H H' H2 : Hp} (h : KeepX H H') (g : KeepX H' H2) : KeepX H H2 := fun a φ e => g a φ (h a φ e)
theorem KeepX.of {H H' : Hp} (h : ∀ a o, H a = some o → H' a = some o) : KeepX H H' := fun a φ e => h a _ e
theorem KeepX.upd {H : Hp} {l : Addr} {xs : List V} {o : HO} (h : H l = some (.lst xs)) : KeepX H (upd H l o) := fun a φ e => by
  rw [upd_ne (fun z => by rw [z, h] at e; cases e)]
  exact e
theorem ExAt.keep {H H' : Hp} {a C : Addr} {m : Option (Str × V)} (h : ExAt H a C m) (k : KeepX H H') : ExAt H' a C m := by
  cases m with
  | none => exact k _ _ h
  | some p =>
    obtain ⟨dx, h1, h2⟩ := h
    exact ⟨dx, k _ _ h1, k _ _ h2⟩
noncomputable def now (L : List (V × B)) (H : Hp) : Hp := fun x => open Classical in if x ∈ owns L then none else H x
theorem now_out {L : List (V × B)} {H : Hp} {x : Addr} (h : x ∉ owns L) : now L H x = H x := by
  unfold now
  rw [if_neg h]
theorem now_in {L : List (V × B)} {H : Hp} {x : Addr} (h : x ∈ owns L) : now L H x = none := by
  unfold now
  rw [if_pos h]
section
variable {C : Cq} {X : Cx} {H H' : Hp} {L L' : List (V × B)} {σ σ' : L2.St} {Γ Γ' : G} {Ts Ts' : List (V × B)}
theorem RelL.now (r : RelL C H L) : RelL ⟨C.K, C.bg, C.bl, C.S0, now L H⟩ H L where
  ok := r.ok
  own := fun a h => ⟨(r.own a h).1, now_in h, (r.own a h).2.2⟩
  nd := r.nd
  dom := r.dom
  bag := r.bag
  same := fun a o _ e => by
    have e' : DL.now L H a = some o := e
    by_cases z : a ∈ owns L
    · rw [now_in z] at e'
      cases e'
    · rwa [now_out z] at e'
theorem RelL.stands (r : RelL C H L) {a : Addr} {o : HO} (hb : C.bg ≠ some a) (e : C.H0 a = some o) : DL.now L H a = some o := by
  have z : a ∉ owns L := fun z => by
    have := (r.own a z).2.1
    rw [this] at e
    cases e
  rw [now_out z]
  exact r.same a o hb e
theorem RelL.back (r : RelL C H L) (q : RelL ⟨C.K, C.bg, C.bl, C.S0, DL.now L H⟩ H' L') : RelL C H' L' where
  ok := q.ok
  own := fun a h => by
    refine ⟨(q.own a h).1, ?_, (q.own a h).2.2⟩
    cases e : C.H0 a with
    | none => rfl
    | some o =>
      by_cases hb : C.bg = some a
      · exact absurd (q.bag a hb).1 (q.own a h).1
      · have n : DL.now L H a = none := (q.own a h).2.1
        have z := r.stands hb e
        rw [n] at z
        cases z
  nd := q.nd
  dom := q.dom
  bag := q.bag
  same := fun a o hb e => q.same a o hb (r.stands hb e)
theorem top_ext {K : PySem.W.Frag} {H R : Hp} {a : Addr} {d : D} {φ : Heap → Prop} (t : Top K H R a d) : H a ≠ some (.ext φ) := by
  cases t with
  | lst e _ => rw [e]; exact fun z => by cases z
  | dK e _ _ => rw [e]; exact fun z => by cases z
  | dT e _ _ => rw [e]; exact fun z => by cases z
  | obj e _ _ _ => rw [e]; exact fun z => by cases z
  | slf e _ _ _ => rw [e]; exact fun z => by cases z
theorem RelL.keepx (r : RelL C H L) (q : RelL ⟨C.K, C.bg, C.bl, C.S0, DL.now L H⟩ H' L') : KeepX H H' := fun a φ e => by
  refine q.same a _ (fun hb => ?_) ?_
  · obtain ⟨_, _, _, _, h1, _⟩ := (r.bag a hb).2.2
    rw [h1] at e
    cases e
  · show DL.now L H a = _
    rw [now_out (fun z => ?_)]
    · exact e
    · obtain ⟨d, m⟩ := owns_mem z
      obtain ⟨c, ec, t⟩ := r.ok _ m
      cases ec
      exact top_ext t e
theorem RS.now (r : RS C σ H Γ Ts) : RS ⟨C.K, C.bg, C.bl, C.S0, DL.now (Ts ++ pairs σ Γ) H⟩ σ H Γ Ts := ⟨r.rel.now, r.len, r.cov⟩
theorem RS.back (r : RS C σ H Γ Ts) (q : RS ⟨C.K, C.bg, C.bl, C.S0, DL.now (Ts ++ pairs σ Γ) H⟩ σ' H' Γ' Ts') : RS C σ' H' Γ' Ts' := ⟨r.rel.back q.rel, q.len, q.cov⟩
theorem RS.keepx (r : RS C σ H Γ Ts) (q : RS ⟨C.K, C.bg, C.bl, C.S0, DL.now (Ts ++ pairs σ Γ) H⟩ σ' H' Γ' Ts') : KeepX H H' := r.rel.keepx q.rel
/-! a data expression, with what is said of the rest -/
def anyE (K : PySem.W.Frag) (bg : Option Addr) (bl : Addr) (t : DE) : TE := fun σ H Q => ∃ S0 H0, liftE ⟨K, bg, bl, S0, H0⟩ t σ H Q
theorem pe_any {K : PySem.W.Frag} {bg : Option Addr} {bl : Addr} {e : Expr} {t : DE} (h : ∀ (S0 : Addr → Prop) (H0 : Hp), ED ⟨K, bg, bl, S0, H0⟩ X e t) : PE X e (anyE K bg bl t) :=
  ⟨fun pins s σ H Q I ⟨S0, H0, z⟩ => (h S0 H0).pe.run pins s σ H Q I z⟩
theorem anyE_of {t : DE} {k : D → Prop} {Q : VK} (r : RS C σ H Γ Ts) (ht : t Γ k) (ans : ∀ v H' d, k d → RS C σ H' Γ ((v, .dat d) :: Ts) → KeepX H H' → Q v H') : anyE C.K C.bg C.bl t σ H Q :=
  ⟨C.S0, DL.now (Ts ++ pairs σ Γ) H, Γ, Ts, k, r.now, ht, fun v H' d hk q => ans v H' d hk (r.back q) (r.keepx q)⟩
/-! a slot that is not spoken of -/
theorem pairs_setN : ∀ (σ : L2.St) (Γ : G) (i : Nat) (v : V), Sub (pairs (σ.set i (some v)) (Γ.set i none)) (pairs σ Γ)
  | [], _, _, _ => ⟨[], .refl _⟩
  | x :: σ, [], i, v => by
    have e : pairs ((x :: σ).set i (some v)) (([] : G).set i none) = [] := by
      cases i <;> cases x <;> simp [pairs, List.set]
    rw [e]
    exact Sub.nil
  | x :: σ, y :: Γ, 0, v => by
    show Sub (pairs σ Γ) (pairs (x :: σ) (y :: Γ))
    cases x <;> cases y <;> first | exact Sub.refl _ | exact Sub.tail
  | x :: σ, y :: Γ, i + 1, v => by
    have ih := pairs_setN σ Γ i v
    show Sub (pairs (x :: σ.set i (some v)) (y :: Γ.set i none)) (pairs (x :: σ) (y :: Γ))
    cases x <;> cases y <;> first | exact ih | exact Sub.cons ih
theorem RS.setN (r : RS C σ H Γ Ts) (i : Nat) (v : V) : RS C (σ.set i (some v)) H (Γ.set i none) Ts := by
  refine ⟨r.rel.sub (Sub.append (pairs_setN σ Γ i v)), by rw [List.length_set, List.length_set]; exact r.len, fun j b h => ?_⟩
  by_cases e : i = j
  · subst e
    by_cases hl : i < Γ.length
    · rw [List.getElem?_set_self hl] at h
      cases h
    · rw [List.getElem?_eq_none (by rw [List.length_set]; omega)] at h
      cases h
  · rw [List.getElem?_set_ne e] at h ⊢
    exact r.cov j b h
theorem RS.intAt (r : RS C σ H Γ Ts) {i : Nat} {n : Int} (h : Γ[i]? = some (some (.dat (.int n)))) : σ[i]? = some (some (.int n)) := by
  obtain ⟨v, e, m⟩ := r.get h
  have q := r.rel.ok _ m
  cases (show Rp C.K _ v (.int n) from q)
  exact e
theorem RS.strAt (r : RS C σ H Γ Ts) {i : Nat} {x : Str} (h : Γ[i]? = some (some (.dat (.str x)))) : σ[i]? = some (some (.str x)) := by
  obtain ⟨v, e, m⟩ := r.get h
  have q := r.rel.ok _ m
  cases (show Rp C.K _ v (.str x) from q)
  exact e
theorem RS.datAt (r : RS C σ H Γ Ts) {i : Nat} {d : D} (h : Γ[i]? = some (some (.dat d))) : ∃ v, σ[i]? = some (some v) ∧ Rp C.K (hid (sh C (Ts ++ pairs σ Γ)) H) v d := by
  obtain ⟨v, e, m⟩ := r.get h
  exact ⟨v, e, r.rel.ok _ m⟩
/-! x.append(e), x the name of a list -/
def tAppX (i : Nat) (ta : TE) : TS := fun D σ H => ∃ l, σ[i]? = some (some (.ref l)) ∧ (∃ xs, H l = some (.lst xs)) ∧ ta σ H fun v H1 => rAppend (.ref l) [v] H1 fun _ H2 => D.nx σ H2
theorem ps_appX (i : Nat) {x : Str} {e : Expr} {ta : TE} {xp ap cp pos : Pos} (hN : X.N[i]? = some x := by rfl) (he : PE X e ta) (hv : Vis X.env.scope x := by first | exact Or.inl rfl | exact Or.inr (Or.inl rfl) | exact Or.inr (Or.inr rfl)) (hd : (x == ("__debug__" : Str)) = false := by decide) (hcd : (x == ("__classdict__" : Str)) = false := by decide)
    (hbase : attributeBase (.Name x xp) "append" X.env (eval (.Name x xp) X.env) = eval (.Name x xp) X.env := by rfl)
    (hfew : ((backTo cp (starEach [e] X.env)).all (fun x => !x.1) && (backToKw cp (keywordEach [] X.env)).all (fun x => x.1.isSome)
      && decide (([e] : List Expr).length + ([] : List Keyword).length + (if ([] : List Keyword).isEmpty then 0 else 1) < 30)) = true := by rfl)
    (hline : (ap.endLine == cp.line) = true := by rfl) (hs : starEach [e] X.env = (false, eval e X.env) :: starEach [] X.env := by rfl) (hplain : (backTo cp (starEach [] X.env)).any (·.1) = false := by rfl)
    (hsw : swapsWith (.Call (.Attribute (.Name x xp) "append" ap) [e] [] cp) none pos.line X.env = pure false := by rfl) :
    PS X (.Expr (.Call (.Attribute (.Name x xp) "append" ap) [e] [] cp) pos) (tAppX i ta) :=
  (ps_expr (pe_bm (T := "list") F.plainAttrs_list F.slot_list_append F.type_list_append mt_append (pe_var hN hv hd hcd) (pa_cons he pa_nil hs) hbase hfew hline hs hplain) hsw).weak fun D' σ H ⟨l, e1, ⟨xs, e2⟩, h⟩ => by
    exact ⟨_, e1, .inl ⟨rfl, xs, SqL.of e2⟩, h⟩
/-- x, y = a, e: a a new thing -/
def sParO2 (i j : Nat) (a b : DE) : DS := fun O Γ => a Γ fun d => b Γ fun e => O.nx ((Γ.set i (some (.own d))).set j (some (.dat e)))
theorem sd_parO2 {i j : Nat} {x y : Str} {a b : Expr} {ta tb : DE} {px py pt pos : Pos} {kt k2 pt2} (hc : X.calm = true) (hN : X.N.Nodup) (hi : X.N[i]? = some x) (hj : X.N[j]? = some y) (hij : i ≠ j)
    (hx : X.env.scope.names.lookup x = some .local) (hy : X.env.scope.names.lookup y = some .local) (ha : OE C X a ta) (hb : ED C X b tb)
    (hw : swappedStores [.Tuple [.Name x px, .Name y py] kt pt] (.Tuple [a, b] k2 pt2) X.env = pure (some [x, y]))
    (hs : swapsWithSole [.Tuple [.Name x px, .Name y py] kt pt] (.Tuple [a, b] k2 pt2) pos.line X.env = pure false := by rfl) (he : starEach [a, b] X.env = (false, eval a X.env) :: starEach [b] X.env := by rfl) (he2 : starEach [b] X.env = (false, eval b X.env) :: starEach [] X.env := by rfl) :
    SD C X (.Assign [.Tuple [.Name x px, .Name y py] kt pt] (.Tuple [a, b] k2 pt2) pos) (sParO2 i j ta tb) :=
  ⟨(ps_par hc hN hi hj hij hx hy (pa_cons ha.pe (pa_cons hb.pe pa_nil he2) he) hw hs).weak fun D' σ H ⟨Γ, Ts, O, r, h, n, _⟩ => ⟨Γ, Ts, _, r, h, fun v H1 d h1 r1 => ⟨Γ, _, _, r1, h1, fun w H2 e h2 r2 =>
    ⟨v, w, rfl, n _ H2 _ h2 (((r2.sub Sub.swap).set i).set j)⟩⟩⟩⟩
end
end DL

namespace DL
open PySem PySem.Spec PyProof.Rows L2
/-! ### sets of tuples of numbers and texts: the real table -/
abbrev MT (P : Program) (w : World) (h : Heap) (k : List Key) (a : Addr) : Prop := IsTupleKey (mixKind P w) h k a
abbrev mh (P : Program) (w : World) (k : List Key) : Int := tupleKeyHash (mixKind P w) k
section
variable {P : Program} {w : World} {A : Around} {E : Value → Shared → Prop} {s : Shared}
def Plain1 (v : Value) : Prop := (∃ i t, v = .int i t) ∨ ∃ x t, v = .str x t
theorem mt_items : ∀ {ks : List Key} {vs : List Value}, PySem.ItemsAre (mixKind P w) ks vs → ∀ v ∈ vs, Plain1 v := by
  intro ks vs h
  induction h with
  | nil => exact fun v hv => by cases hv
  | cons h1 _ ih =>
    intro v hv
    rcases List.mem_cons.mp hv with e | hv
    · rw [e]
      rcases keyIs_shape h1 with ⟨i, t, _, e⟩ | ⟨x, t, _, e⟩
      · exact .inl ⟨i, t, e⟩
      · exact .inr ⟨x, t, e⟩
    · exact ih v hv
theorem noClass {v : Value} (n : Nat) (h : Plain1 v) : ofAClassStatement n v = pure false := by
  rcases h with ⟨i, t, rfl⟩ | ⟨x, t, rfl⟩ <;> cases n <;> rfl
theorem someHash {v : Value} (n : Nat) (h : Plain1 v) : ∃ b, hashByValue n v = pure b := by
  rcases h with ⟨i, t, rfl⟩ | ⟨x, t, rfl⟩ <;> cases n <;> exact ⟨_, rfl⟩
theorem mt_class {k : List Key} {b : Addr} {Q : Bool → Shared → Prop} (hk : MT P w s.heap k b) (q : Q false s) : wpAny (model P w) A (ofAClassStatement 8 (.ref b)) Q E s := by
  have ty := hk.typeIs
  obtain ⟨o, its, n, ho, _, hd, hi⟩ := hk
  unfold ofAClassStatement
  refine wpAny_bind (wpAny_typeOf ty ?_); dsimp only
  have tt : (("tuple" : String) == "tuple") = true := by decide
  simp only [tt, if_true, Bool.not_true, Bool.false_eq_true, if_false]
  try refine wpAny_bind (wpAny_pure ?_)
  try simp only [Bool.not_true, Bool.false_eq_true, if_false]
  show wpAny _ _ (seqItems? (.ref b) >>= _) _ _ s; refine wpAny_bind (wpAny_seqItems ho hd ?_)
  dsimp only; refine wpAny_bind ?_
  show wpAny _ _ (forIn its _ _) _ _ s; rw [← Array.forIn_toList]
  refine wpAny_forIn_list _ (fun left r s' => r.1 = none ∧ s' = s ∧ ∀ v ∈ left, Plain1 v) _ (fun v left r s' ⟨hr, e, all⟩ => ?_) (fun r s' ⟨hr, e, _⟩ => ?_) _ _ ⟨rfl, rfl, mt_items hi⟩
  · subst e
    rw [noClass _ (all v List.mem_cons_self)]
    refine wpAny_bind (wpAny_pure ?_); simp only [Bool.false_eq_true, if_false]
    exact wpAny_pure ⟨rfl, rfl, fun u hu => all u (List.mem_cons_of_mem _ hu)⟩
  · obtain ⟨r1, r2⟩ := r
    subst e
    simp only at hr
    subst hr
    exact wpAny_pure q
theorem mt_hash {k : List Key} {b : Addr} {Q : Bool → Shared → Prop} (hk : MT P w s.heap k b) (q : ∀ r, Q r s) : wpAny (model P w) A (hashByValue 8 (.ref b)) Q E s := by
  have ty := hk.typeIs
  obtain ⟨o, its, n, ho, _, hd, hi⟩ := hk
  unfold hashByValue
  refine wpAny_bind (wpAny_specialOf ty F.slot_tuple_hash.lookup ?_); show wpAny _ _ (seqItems? (.ref b) >>= _) _ _ s
  refine wpAny_bind (wpAny_seqItems ho hd ?_); refine wpAny_bind ?_
  show wpAny _ _ (forIn its _ _) _ _ s; rw [← Array.forIn_toList]
  refine wpAny_forIn_list _ (fun left r s' => r.1 = none ∧ s' = s ∧ ∀ v ∈ left, Plain1 v) _ (fun v left r s' ⟨hr, e, all⟩ => ?_) (fun r s' ⟨hr, e, _⟩ => ?_) _ _ ⟨rfl, rfl, mt_items hi⟩
  · subst e
    obtain ⟨c, ec⟩ := someHash 7 (all v List.mem_cons_self)
    rw [ec]
    refine wpAny_bind (wpAny_pure ?_)
    cases c with
    | true =>
      simp only [Bool.not_true, Bool.false_eq_true, if_false]
      exact wpAny_pure ⟨rfl, rfl, fun u hu => all u (List.mem_cons_of_mem _ hu)⟩
    | false =>
      simp only [Bool.not_false, if_true]
      exact wpAny_pure (wpAny_pure (q _))
  · obtain ⟨r1, r2⟩ := r
    subst e
    simp only at hr
    subst hr
    exact wpAny_pure (q _)
/-- a search among such tuples shows nothing of the table -/
theorem mt_seen {k : List Key} {b : Addr} {Q : Bool → Shared → Prop} (hk : MT P w s.heap k b) {ys : List Value} (hy : ∀ y ∈ ys, ∃ k' c, y = Value.ref c ∧ MT P w s.heap k' c) (q : Q false s) : wpAny (model P w) A (searchCouldBeSeen (.ref b) ys) Q E s := by
  unfold searchCouldBeSeen; refine wpAny_bind ?_
  refine wpAny_forIn_list _ (fun left r s' => r.1 = none ∧ s' = s ∧ ∀ y ∈ left, ∃ k' c, y = Value.ref c ∧ MT P w s.heap k' c) _ (fun v left r s' ⟨hr, e, all⟩ => ?_) (fun r s' ⟨hr, e, _⟩ => ?_) _ _ ⟨rfl, rfl, hy⟩
  · subst e
    obtain ⟨k', c, rfl, hc⟩ := all v List.mem_cons_self
    have go := fun u hu => all u (List.mem_cons_of_mem _ hu)
    dsimp only
    by_cases same : (b == c || (carriedByValue (.ref b) && carriedByValue (.ref c))) = true
    · exact wp_if_pos same (wpAny_pure ⟨rfl, rfl, go⟩)
    · refine wp_if_neg same (wpAny_bind (wpAny_eqIsQuiet_tuple hk ?_)); simp only [Bool.not_true, Bool.false_eq_true, if_false]
      refine wpAny_bind (wpAny_eqIsQuiet_tuple hc ?_); simp only [Bool.not_true, Bool.false_eq_true, if_false]
      refine wpAny_bind (mt_class hk ?_); simp only [Bool.false_eq_true, if_false]
      refine wpAny_bind (mt_class hc ?_); simp only [Bool.false_eq_true, if_false]
      exact wpAny_pure ⟨rfl, rfl, go⟩
  · obtain ⟨r1, r2⟩ := r
    subst e
    simp only at hr
    subst hr
    exact wpAny_pure q
/-! the set, its rows in the table's order -/
def rowsK (P : Program) (w : World) (L : List (Addr × List Key)) : List (Int × Value) := L.map fun p => (mh P w p.2, .ref p.1)
structure PSet (P : Program) (w : World) (h : Heap) (a : Addr) (L : List (Addr × List Key)) (es : Array (Int × Value)) (ep : Nat) (t : SetTable) : Prop where
  ob : ∃ o, h.get? a = some o ∧ o.ExactSet ∧ o.data = .set es ep t
  rows : es.toList = rowsK P w L
  tab : L2.TabOk t (L.map fun p => mh P w p.2)
  nd : (L.map (·.2)).Nodup
  tup : ∀ p ∈ L, MT P w h p.2 p.1
  room : L.length * 5 < t.mask * 3
  few : L.length < 64
  led : w.params.followText "set-order" = true ∨ t.led = true
variable {a : Addr} {L : List (Addr × List Key)} {es : Array (Int × Value)} {ep : Nat} {t : SetTable}
theorem rows_size (h : es.toList = rowsK P w L) : es.size = L.length := by
  rw [← Array.length_toList, h]
  exact List.length_map _
theorem rows_at (h : es.toList = rowsK P w L) {i : Nat} {p : Addr × List Key} (hp : L[i]? = some p) : es[i]? = some (mh P w p.2, Value.ref p.1) := by
  rw [← Array.getElem?_toList, h, rowsK, List.getElem?_map, hp]
  rfl
theorem tab_size {hs : List Int} (T : L2.TabOk t hs) : t.place.toList.length = hs.length := by rw [Array.length_toList]; exact T.sz
theorem PSet.fits (R : PSet P w s.heap a L es ep t) : t.fits es.size = true := by
  have h1 := tab_size R.tab
  have h2 := rows_size R.rows
  have h3 := R.room
  rw [Array.length_toList, List.length_map] at h1
  unfold SetTable.fits SetTable.fill
  rw [R.tab.dm]
  simp only [Bool.and_eq_true, beq_iff_eq, decide_eq_true_eq, Array.size_empty]
  omega
theorem PSet.whole (R : PSet P w s.heap a L es ep t) : t.gaveWay = false := by
  unfold SetTable.gaveWay
  rw [mask_odd R.tab.mok]
  rfl
/-- the c-th step of the way of a hash -/
def stepAt (t : SetTable) (h : Int) (c : Nat) : SetTable.Probe := nth t.mask (runAt t.mask (SetTable.bits h % (t.mask + 1)) (SetTable.bits h)) c
theorem stepAt_j {h : Int} {c : Nat} : (stepAt t h c).j = way t.mask h c := rfl
theorem stepAt_on {h : Int} {c q : Nat} : nth t.mask (stepAt t h c) q = stepAt t h (c + q) := (nth_add t.mask c _ q).symm
theorem stepAt_dummy {h : Int} : ∀ c, (stepAt t h c).dummy = none := by
  have one : ∀ p : SetTable.Probe, p.dummy = none → (adv t.mask p).dummy = none := fun p e => by unfold adv; split <;> exact e
  have all : ∀ (c : Nat) (p : SetTable.Probe), p.dummy = none → (nth t.mask p c).dummy = none := by
    intro c
    induction c with
    | zero => exact fun p e => e
    | succ c ih => exact fun p e => ih (adv t.mask p) (one p e)
  exact fun c => all c _ rfl
def hashesOf (es : Array (Int × Value)) : Nat → Int := fun i => (es[i]?.map (·.1)).getD 0
theorem hashesOf_at (h : es.toList = rowsK P w L) {i : Nat} {p : Addr × List Key} (hp : L[i]? = some p) : hashesOf es i = mh P w p.2 := by
  unfold hashesOf
  rw [rows_at h hp]
  rfl
/-- one question of the table, from the c-th step on -/
theorem PSet.ask (R : PSet P w s.heap a L es ep t) {h : Int} {K c : Nat} (hc : c ≤ K) (hf : K < 10 * SetTable.turns t.mask) (hK : way t.mask h K ∉ t.place.toList) (hb : ∀ q, q < K → way t.mask h q ∈ t.place.toList) :
    (∃ (q i : Nat) (p : Addr × List Key), c + q < K ∧ t.place.toList[i]? = some (way t.mask h (c + q)) ∧ L[i]? = some p ∧ (∀ r, r < q → ∀ (i' : Nat) (p' : Addr × List Key), t.place.toList[i']? = some (way t.mask h (c + r)) → L[i']? = some p' → mh P w p'.2 ≠ h) ∧
      t.probe (hashesOf es) h (stepAt t h c) = some (.candidate (way t.mask h (c + q)) i (stepAt t h (c + (q + 1))))) ∨
    ((∀ r, c + r < K → ∀ (i' : Nat) (p' : Addr × List Key), t.place.toList[i']? = some (way t.mask h (c + r)) → L[i']? = some p' → mh P w p'.2 ≠ h) ∧ t.probe (hashesOf es) h (stepAt t h c) = some (.empty (way t.mask h K) none)) := by
  have z := go_spec t R.tab.ris R.tab.dm (hashesOf es) h (10 * SetTable.turns t.mask) (K - c) (stepAt t h c) (stepAt_dummy c) (by omega) (fun q hq => by rw [stepAt_on, stepAt_j]; exact hb _ (by omega)) (by rw [stepAt_on, stepAt_j, Nat.add_sub_cancel' hc]; exact hK)
  simp only [stepAt_on, stepAt_j] at z
  have no : ∀ {r i' : Nat} {p' : Addr × List Key}, L[i']? = some p' → hashesOf es i' ≠ h → mh P w p'.2 ≠ h := fun hp hne e => hne ((hashesOf_at R.rows hp).trans e)
  rcases z with ⟨q, i, hq, hi, _, pass, e⟩ | ⟨pass, e⟩
  · have hl : i < L.length := by
      have h1 := (List.getElem?_eq_some_iff.mp hi).1
      rw [tab_size R.tab, List.length_map] at h1
      exact h1
    exact .inl ⟨q, i, L[i], by omega, hi, List.getElem?_eq_getElem hl, fun r hr i' p' h1 h2 => no (r := r) h2 (pass r i' hr h1), e⟩
  · rw [Nat.add_sub_cancel' hc] at e
    exact .inr ⟨fun r hr i' p' h1 h2 => no (r := r) h2 (pass r i' (by omega) h1), e⟩
theorem PSet.search (R : PSet P w s.heap a L es ep t) {x : Addr} {k : List Key} (hx : MT P w s.heap k x) (hu : A.units < cLine) {K : Nat} (hf : K < 10 * SetTable.turns t.mask) (hK : way t.mask (mh P w k) K ∉ t.place.toList) (hb : ∀ q, q < K → way t.mask (mh P w k) q ∈ t.place.toList)
    {Q : SetFound → Shared → Prop} (hin : k ∈ L.map (·.2) → Q (.there none) s) (hout : k ∉ L.map (·.2) → Q (.free (way t.mask (mh P w k) K) false) s) :
    ∀ (f c : Nat) (stand : Option SetTable.Probe), stand.getD (t.probeStart (mh P w k)) = stepAt t (mh P w k) c → c ≤ K → K - c < f →
      (∀ (i : Nat) (p : Addr × List Key), L[i]? = some p → p.2 = k → ∃ r, c + r < K ∧ t.place.toList[i]? = some (way t.mask (mh P w k) (c + r))) →
      wpAny (model P w) A (setSearchFrom a (.ref x) (mh P w k) true f stand) Q E s
  | 0, _, _, _, _, lt, _ => absurd lt (Nat.not_lt_zero _)
  | f + 1, c, stand, hst, hc, lt, later => by
    obtain ⟨o, ho, _, hd⟩ := R.ob
    rw [setSearchFrom_succ]; refine wpAny_bind (wpAny_setState_of ho hd R.fits ?_)
    dsimp only; refine wp_if_neg (by rw [R.whole]; decide) ?_
    try refine wpAny_bind (wpAny_pure ?_)
    rcases R.ask hc hf hK hb with ⟨q, i, p, hq, hi, hp, pass, e⟩ | ⟨pass, e⟩
    · have e' : t.probe (fun i => (es[i]?.map (·.1)).getD 0) (mh P w k) (stand.getD (t.probeStart (mh P w k))) = some (.candidate (way t.mask (mh P w k) (c + q)) i (stepAt t (mh P w k) (c + (q + 1)))) := by rw [hst]; exact e
      rw [e']; dsimp only
      have mem := List.mem_of_getElem? hp
      have sl : t.slot (way t.mask (mh P w k) (c + q)) = .live i := slot_live R.tab.ris hi
      have rest : wpAny (model P w) A (searchRest a (.ref x) (mh P w k) true f es t (way t.mask (mh P w k) (c + q)) i (stepAt t (mh P w k) (c + (q + 1)))) Q E s := by
        unfold searchRest; rw [rows_at R.rows hp]; dsimp only
        refine wpAny_bind (wpAny_holding (wpAny_eqBool_tuple hu (R.tup p mem) hx ?_)); refine wpAny_bind (wpAny_setState_of ho hd R.fits ?_)
        dsimp only
        by_cases same : p.2 = k
        · exact wp_if_pos (by simp [same]) (wpAny_pure (hin (List.mem_map.mpr ⟨p, mem, same⟩)))
        · refine wp_if_neg (by simp [same]) ?_
          try refine wpAny_bind (wpAny_pure ?_)
          rw [sameMem]; dsimp only
          simp only [if_true, sl, rows_at R.rows hp]; refine wpAny_bind (wpAny_isSame_ref_self (wpAny_bind (wpAny_pure ?_)))
          simp only [if_true]; refine wp_if_neg (by simp [same]) ?_
          refine PSet.search R hx hu hf hK hb hin hout f (c + (q + 1)) _ rfl (by omega) (by omega) fun i0 p0 h0 e0 => ?_
          obtain ⟨r, hr, hi0⟩ := later i0 p0 h0 e0
          rcases Nat.lt_trichotomy r q with lo | mid | hi'
          · exact absurd (congrArg (mh P w) e0) (pass r lo i0 p0 hi0 h0)
          · subst mid
            have s0 := slot_live R.tab.ris hi0
            rw [sl] at s0
            cases s0
            rw [hp] at h0
            cases h0
            exact absurd e0 same
          · exact ⟨r - (q + 1), by omega, by rw [show c + (q + 1) + (r - (q + 1)) = c + r by omega]; exact hi0⟩
      by_cases led : t.led = true
      · refine wp_if_neg (by simp [led]) ?_
        try refine wpAny_bind (wpAny_pure ?_)
        exact rest
      · refine wp_if_pos (by simp [led]) (wpAny_bind (mt_seen hx (fun y hy => ?_) ?_))
        · obtain ⟨u, hu1, eu⟩ := List.mem_map.mp hy
          have inU : u ∈ es := by
            have z : u ∈ es ∧ u.1 = mh P w k := by simpa using hu1
            exact z.1
          rw [← Array.mem_toList_iff, R.rows] at inU
          obtain ⟨p2, hp2, e2⟩ := List.mem_map.mp inU
          exact ⟨p2.2, p2.1, by rw [← eu, ← e2], R.tup p2 hp2⟩
        · refine wp_if_neg (by decide) ?_
          try refine wpAny_bind (wpAny_pure ?_)
          exact rest
    · have e' : t.probe (fun i => (es[i]?.map (·.1)).getD 0) (mh P w k) (stand.getD (t.probeStart (mh P w k))) = some (.empty (way t.mask (mh P w k) K) none) := by rw [hst]; exact e
      rw [e']; dsimp only
      refine wpAny_pure (hout fun hm => ?_)
      obtain ⟨p0, h0, e0⟩ := List.mem_map.mp hm
      obtain ⟨i0, hi0, g0⟩ := List.getElem_of_mem h0
      have h00 : L[i0]? = some p0 := by rw [List.getElem?_eq_getElem hi0, g0]
      obtain ⟨r, hr, hj⟩ := later i0 p0 h00 e0
      exact pass r hr i0 p0 hj h00 (congrArg (mh P w) e0)
/-- the search that adding asks for -/
theorem PSet.find (R : PSet P w s.heap a L es ep t) {x : Addr} {k : List Key} (hx : MT P w s.heap k x) (hu : A.units < cLine) {Q : SetFound → Shared → Prop} (hin : k ∈ L.map (·.2) → Q (.there none) s)
    (hout : ∀ K, k ∉ L.map (·.2) → way t.mask (mh P w k) K ∉ t.place.toList → (∀ q, q < K → way t.mask (mh P w k) q ∈ t.place.toList) → Q (.free (way t.mask (mh P w k) K) false) s) : wpAny (model P w) A (setSearch a (.ref x) (mh P w k) true) Q E s := by
  have room := R.room
  obtain ⟨K, hf, hK, hb⟩ := R.tab.first (by rw [List.length_map]; omega) (mh P w k)
  have small : K < 100000 := by
    have : SetTable.turns t.mask ≤ 142 := by
      unfold SetTable.turns
      rcases R.tab.mok with e | e | e <;> omega
    omega
  unfold setSearch
  refine R.search hx hu hf hK hb hin (fun hn => hout K hn hK hb) 100000 0 none rfl (Nat.zero_le _) (by omega) fun i p hp e => ?_
  have h1 : (L.map fun p => mh P w p.2)[i]? = some (mh P w k) := by
    rw [List.getElem?_map, hp, ← e]
    rfl
  have h2 : i < t.place.toList.length := by
    rw [tab_size R.tab, List.length_map]
    exact (List.getElem?_eq_some_iff.mp hp).1
  obtain ⟨c, hc, ec⟩ := R.tab.before hK h1 (List.getElem?_eq_getElem h2)
  exact ⟨c, by omega, by rw [Nat.zero_add, ec]; exact List.getElem?_eq_getElem h2⟩
theorem mt_apart {h h' : Heap} {k : List Key} {b : Addr} {o : Obj} (hb : MT P w h k b) (ho : h.get? a = some o) (hd : o.data = .set es ep t) (same : Heap.SameBut a h h') : MT P w h' k b := by
  obtain ⟨o', its, n, ho', c, d, i⟩ := hb
  refine ⟨o', its, n, (same.2 b fun e => ?_).trans ho', c, d, i⟩
  rw [e, ho] at ho'
  cases ho'
  rw [hd] at d
  cases d
theorem range_all {α : Type} : ∀ l : List α, (List.range l.length).filterMap (fun i => l[i]?) = l
  | [] => rfl
  | x :: l => by
    rw [List.length_cons, List.range_succ_eq_map, List.filterMap_cons_some (f := fun i => (x :: l)[i]?) (b := x) rfl, List.filterMap_map]
    exact congrArg (x :: ·) (range_all l)
theorem rows_get (h : es.toList = rowsK P w L) (i : Nat) : es[i]? = (L[i]?).map fun p => (mh P w p.2, Value.ref p.1) := by
  rw [← Array.getElem?_toList, h, rowsK, List.getElem?_map]
theorem rows_order (h : es.toList = rowsK P w L) (order : Array Nat) (hp : order.toList.Perm (List.range L.length)) :
    ∃ L2 : List (Addr × List Key), (order.filterMap (es[·]?)).toList = rowsK P w L2 ∧ L2.Perm L ∧ (L2.map fun p => mh P w p.2) = order.toList.map fun i => (es.map (·.1)).getD i 0 := by
  refine ⟨order.toList.filterMap fun i => L[i]?, ?_, ?_, ?_⟩
  · rw [Array.toList_filterMap, rowsK, List.map_filterMap]
    congr 1
    funext i
    exact rows_get h i
  · have z := hp.filterMap fun i => L[i]?
    rwa [range_all] at z
  · have all : ∀ i ∈ order.toList, i < L.length := fun i hi => List.mem_range.mp (hp.mem_iff.mp hi)
    generalize order.toList = l at all
    induction l with
    | nil => rfl
    | cons i l ih =>
      have hi := all i List.mem_cons_self
      rw [List.filterMap_cons_some (List.getElem?_eq_getElem hi), List.map_cons, List.map_cons, ih fun j hj => all j (List.mem_cons_of_mem _ hj)]
      congr 1
      have e : (es.map (·.1))[i]? = some (mh P w (L[i]).2) := by
        rw [Array.getElem?_map, rows_at h (List.getElem?_eq_getElem hi)]
        rfl
      simp [Array.getD_eq_getD_getElem?, e]
/-- the table laid anew -/
theorem PSet.relay {o : Obj} (ho : s.heap.get? a = some o) (hex : o.ExactSet) (hd : o.data = .set es ep t) (hr : es.toList = rowsK P w L) (T : L2.TabOk t (L.map fun p => mh P w p.2)) (le : L.length ≤ t.mask) (nd : (L.map (·.2)).Nodup) (tup : ∀ p ∈ L, MT P w s.heap p.2 p.1) (few : L.length < 64) (ld : w.params.followText "set-order" = true ∨ t.led = true)
    {wanted M : Nat} (hw : SetTable.sizeAbove wanted - 1 = M) (hM : MaskOk M) (h128 : SetTable.sizeAbove wanted ≤ 128) (room : L.length * 5 < M * 3) {Q : Unit → Shared → Prop}
    (q : ∀ h' L' es' ep' t', Heap.SameBut a s.heap h' → PSet P w h' a L' es' ep' t' → L'.Perm L → Q () { s with heap := h' }) : wpAny (model P w) A (setRelay a wanted) Q E s := by
  have sz := rows_size hr
  have fits : t.fits es.size = true := by
    have h1 := T.sz
    rw [List.length_map] at h1
    unfold SetTable.fits SetTable.fill
    rw [T.dm]
    simp only [Bool.and_eq_true, beq_iff_eq, decide_eq_true_eq, Array.size_empty]
    omega
  obtain ⟨t', order, e, hp, T', em, el, _, _⟩ := relaid_ok t (hs := es.map (·.1)) (wanted := wanted) hw hM (by rw [Array.size_map]; omega)
  rw [Array.size_map, sz] at hp
  obtain ⟨L2, r1, r2, r3⟩ := rows_order hr order hp
  rw [← r3] at T'
  have sz2 : (order.filterMap (es[·]?)).size = es.size := by rw [rows_size r1, r2.length_eq, sz]
  rw [setRelay_eq]; refine wpAny_bind (wpAny_setState_of ho hd fits ?_)
  dsimp only; refine wp_if_neg (by rw [sizeLine_eq]; omega) ?_
  try refine wpAny_bind (wpAny_pure ?_)
  rw [e]; dsimp only
  refine wpAny_bind (wp_if_neg (by rw [sz2]; simp) ?_)
  try refine wpAny_bind (wpAny_pure ?_)
  refine wpAny_pure ?_; dsimp only
  refine wpAny_storeSet_of ho hd ?_ (by rw [sz2, sz, sizeLine_eq]; omega)
  have sb : Heap.SameBut a s.heap (s.heap.update a (Obj.putSet (order.filterMap (es[·]?)) t')) := Heap.SameBut.update ..
  exact q _ L2 _ (ep + 1) t' sb ⟨⟨_, store_at ho hd, ⟨hex.1, hex.2.1, hex.2.2⟩, rfl⟩, r1, T', (r2.map (·.2)).nodup_iff.mpr nd, fun p hp => mt_apart (tup p (r2.mem_iff.mp hp)) ho hd sb, by rw [r2.length_eq, em]; exact room, by rw [r2.length_eq]; exact few, by rw [el]; exact ld⟩ r2
/-- what adding leaves -/
def Added (L L' : List (Addr × List Key)) (x : Addr) (k : List Key) : Prop := (k ∈ L.map (·.2) ∧ L' = L) ∨ (k ∉ L.map (·.2) ∧ L'.Perm ((x, k) :: L))
theorem PSet.add (R : PSet P w s.heap a L es ep t) {x : Addr} {k : List Key} (hx : MT P w s.heap k x) (hu : A.units < cLine) (few : L.length + 1 < 64) {Q : Bool → Shared → Prop}
    (q : ∀ b h' L' es' ep' t', Heap.SameBut a s.heap h' → PSet P w h' a L' es' ep' t' → Added L L' x k → Q b { s with heap := h' }) : wpAny (model P w) A (setAddHashed a (.ref x) (mh P w k)) Q E s := by
  obtain ⟨o, ho, hex, hd⟩ := R.ob
  have sz := rows_size R.rows
  have room := R.room
  unfold setAddHashed; refine wpAny_holding ?_
  rw [show (100000 : Nat) = 99999 + 1 from rfl, setAddHashedIn_succ]; refine wpAny_bind (wpAny_setState_of ho hd R.fits ?_)
  dsimp only; refine wp_if_neg (by simp [byScan, Value.scannable]) ?_
  try refine wpAny_bind (wpAny_pure ?_)
  refine wpAny_bind (R.find hx hu (fun hm => ?_) fun K hm hK hb => ?_)
  · dsimp only
    exact wpAny_pure (q false s.heap L es ep t (Heap.SameBut.refl a s.heap) R (.inl ⟨hm, rfl⟩))
  · dsimp only; refine wpAny_bind (wpAny_setState_of ho hd R.fits ?_)
    dsimp only
    obtain ⟨q1, _, q3, q4, q5, _, _, _, q9⟩ := R.tab.put hK hb
    generalize hpt : t.put (way t.mask (mh P w k) K) = pt at q1 q3 q4 q5 q9 ⊢
    obtain ⟨t1, p⟩ := pt
    dsimp only at q1 q3 q4 q5 q9 ⊢
    subst q1
    generalize SetTable.below t.place (way t.mask (mh P w k) K) = p at q3 ⊢
    -- the rows
    have hin : (SetTable.insertAt es p (mh P w k, Value.ref x)).toList = rowsK P w (L.take p ++ (x, k) :: L.drop p) := by
      rw [SetTable.toList_insertAt, R.rows, rowsK, rowsK, List.map_append, List.map_cons, List.map_take, List.map_drop]
    have pm : (L.take p ++ (x, k) :: L.drop p).Perm ((x, k) :: L) := by
      have z : (L.take p ++ (x, k) :: L.drop p).Perm ((x, k) :: (L.take p ++ L.drop p)) := List.perm_middle
      rwa [List.take_append_drop] at z
    have tab : L2.TabOk t1 ((L.take p ++ (x, k) :: L.drop p).map fun p => mh P w p.2) := by
      rw [List.map_append, List.map_cons, List.map_take, List.map_drop]
      exact q3
    generalize SetTable.insertAt es p (mh P w k, Value.ref x) = es1 at hin ⊢
    generalize L.take p ++ (x, k) :: L.drop p = L1 at hin pm tab
    have len : L1.length = L.length + 1 := pm.length_eq
    have sz1 : es1.size = L.length + 1 := by rw [rows_size hin, len]
    have nd1 : (L1.map (·.2)).Nodup := (pm.map (·.2)).nodup_iff.mpr (by rw [List.map_cons]; exact List.nodup_cons.mpr ⟨hm, R.nd⟩)
    have full : t1.tooFull = decide ((L.length + 1) * 5 ≥ t.mask * 3) := by
      unfold SetTable.tooFull
      rw [q9, List.length_map, q4]
    rw [sz]
    -- from here on the table, but for what it says of the values
    have go : ∀ r : Bool, ∃ t2 : SetTable, (if r = true then t1 else { t1 with plain := false }) = t2 ∧ t2.mask = t.mask ∧ t2.tooFull = decide ((L.length + 1) * 5 ≥ t.mask * 3) ∧ L2.TabOk t2 (L1.map fun p => mh P w p.2) ∧ t2.led = t.led := fun r => by
      cases r with
      | true => exact ⟨t1, rfl, q4, full, tab, q5⟩
      | false => exact ⟨{ t1 with plain := false }, rfl, q4, full, ⟨tab.ris, tab.dm, tab.sz, tab.mok, tab.bd, tab.reach⟩, q5⟩
    have lay : ∀ t2 : SetTable, t2.mask = t.mask → t2.tooFull = decide ((L.length + 1) * 5 ≥ t.mask * 3) → L2.TabOk t2 (L1.map fun p => mh P w p.2) → t2.led = t.led →
        wpAny (model P w) A (storeSet a es1 t2 >>= fun _ => if (!false && t2.tooFull) = true then (setRelay a (SetTable.grown (L.length + 1)) >>= fun _ => pure true) else pure true) Q E s := fun t2 m2 f2 tab2 l2 => by
      refine wpAny_bind (wpAny_storeSet_of ho hd ?_ (by rw [sz1, sizeLine_eq]; omega))
      have sb : Heap.SameBut a s.heap (s.heap.update a (Obj.putSet es1 t2)) := Heap.SameBut.update ..
      have ho1 := store_at (es' := es1) (t' := t2) ho hd
      generalize s.heap.update a (Obj.putSet es1 t2) = h1 at sb ho1 ⊢
      have tup1 : ∀ p ∈ L1, MT P w h1 p.2 p.1 := fun p hp => by
        rcases List.mem_cons.mp (pm.mem_iff.mp hp) with e | hp
        · rw [e]; exact mt_apart hx ho hd sb
        · exact mt_apart (R.tup p hp) ho hd sb
      by_cases full2 : (L.length + 1) * 5 ≥ t.mask * 3
      · refine wp_if_pos (by rw [f2]; simpa using full2) (wpAny_bind ?_)
        have room2 : ∀ M, SetTable.sizeAbove (SetTable.grown (L.length + 1)) - 1 = M → MaskOk M → SetTable.sizeAbove (SetTable.grown (L.length + 1)) ≤ 128 → (L.length + 1) * 5 < M * 3 →
            wpAny (model P w) A (setRelay a (SetTable.grown (L.length + 1))) (fun _ s' => wpAny (model P w) A (pure true) Q E s') E { s with heap := h1 } := fun M c1 c2 c3 c4 =>
          PSet.relay (s := { s with heap := h1 }) ho1 ⟨hex.1, hex.2.1, hex.2.2⟩ rfl hin tab2 (by rw [len, m2]; omega) nd1 tup1 (by rw [len]; exact few) (by rw [l2]; exact R.led) c1 c2 c3 (by rw [len]; exact c4) fun h2 L2 es2 ep2 t3 sb2 R2 pm2 => wpAny_pure (q true h2 L2 es2 ep2 t3 (sb.trans sb2) R2 (.inr ⟨hm, pm2.trans pm⟩))
        rcases R.tab.mok with e | e | e
        · have e4 : L.length = 4 := by omega
          exact room2 31 (by rw [e4, size_20]) (.inr (.inl rfl)) (by rw [e4, size_20]; decide) (by omega)
        · have e18 : L.length = 18 := by omega
          exact room2 127 (by rw [e18, size_76]) (.inr (.inr rfl)) (by rw [e18, size_76]; decide) (by omega)
        · omega
      · refine wp_if_neg (by rw [f2]; simpa using full2) (wpAny_pure ?_)
        exact q true h1 L1 es1 (ep + 1) t2 sb ⟨⟨_, ho1, ⟨hex.1, hex.2.1, hex.2.2⟩, rfl⟩, hin, tab2, nd1, tup1, by rw [len, m2]; omega, by rw [len]; exact few, by rw [l2]; exact R.led⟩ (.inr ⟨hm, pm⟩)
    by_cases pl : t1.plain = true
    · refine wp_if_pos pl (wpAny_bind (mt_hash hx fun r => ?_))
      obtain ⟨t2, e, c1, c2, c3, c4⟩ := go r
      rw [e]
      exact lay t2 c1 c2 c3 c4
    · refine wp_if_neg pl (wpAny_bind (wpAny_pure ?_))
      obtain ⟨t2, e, c1, c2, c3, c4⟩ := go true
      rw [e]
      exact lay t2 c1 c2 c3 c4
end
end DL

namespace DL
open PySem PySem.Spec PyProof.Rows L2
/-! ### a set of such tuples, tracked -/
/-- the set at a, without the tuples -/
def PS0 (P : Program) (w : World) (h : Heap) (a : Addr) (L : List (Addr × List Key)) : Prop := ∃ (es : Array (Int × Value)) (ep : Nat) (t : SetTable), (∃ o, h.get? a = some o ∧ o.ExactSet ∧ o.data = .set es ep t) ∧ es.toList = rowsK P w L ∧
  L2.TabOk t (L.map fun p => mh P w p.2) ∧ (L.map (·.2)).Nodup ∧ L.length * 5 < t.mask * 3 ∧ L.length < 64 ∧ (w.params.followText "set-order" = true ∨ t.led = true)
def PSO (P : Program) (w : World) (a : Addr) (L : List (Addr × List Key)) : HO := .ext fun h => PS0 P w h a L
section
variable {P : Program} {w : World} {A : Around} {E : Value → Shared → Prop} {s : Shared} {a : Addr} {L : List (Addr × List Key)} {h h' : Heap}
theorem PSet.ps0 {es : Array (Int × Value)} {ep : Nat} {t : SetTable} (R : PSet P w h a L es ep t) : PS0 P w h a L := ⟨es, ep, t, R.ob, R.rows, R.tab, R.nd, R.room, R.few, R.led⟩
theorem PS0.full (R : PS0 P w h a L) (tup : ∀ p ∈ L, MT P w h p.2 p.1) : ∃ es ep t, PSet P w h a L es ep t := by
  obtain ⟨es, ep, t, ob, rows, tab, nd, room, few, led⟩ := R
  exact ⟨es, ep, t, ob, rows, tab, nd, tup, room, few, led⟩
theorem PS0.stay (R : PS0 P w h a L) (k : ∀ o, h.get? a = some o → h'.get? a = some o) : PS0 P w h' a L := by
  obtain ⟨es, ep, t, ⟨o, ho, r⟩, q⟩ := R
  exact ⟨es, ep, t, ⟨o, k o ho, r⟩, q⟩
theorem pso_ok {H : Hp} (R : PS0 P w h a L) : ObjOk P w H h a (PSO P w a L) := by
  obtain ⟨o, ho⟩ : ∃ o, h.get? a = some o := by
    obtain ⟨_, _, _, ⟨o, ho, _⟩, _⟩ := R
    exact ⟨o, ho⟩
  exact ⟨R, ⟨o, ho⟩, fun h1 h2 p k => PS0.stay p k⟩
def setFresh (w : World) : Obj := { cls := .type "set", dict := none, data := .set #[] 0 (.fresh 0 0 (!w.params.followText "set-order")) }
theorem ps0_fresh (w : World) (ha : h.get? a = some (setFresh w)) : PS0 P w h a [] :=
  ⟨#[], 0, _, ⟨_, ha, ⟨rfl, rfl, rfl⟩, rfl⟩, rfl, ⟨List.Pairwise.nil, rfl, rfl, .inl rfl, fun x hx => (by cases hx), fun i _ _ hi => (by simp at hi)⟩, List.nodup_nil, (by show 0 * 5 < 7 * 3; decide), (by show 0 < 64; decide), (by show _ ∨ (!w.params.followText "set-order") = true; cases w.params.followText "set-order" <;> simp)⟩
/-- a.add(x), x such a tuple -/
theorem PSet.call_add {es : Array (Int × Value)} {ep : Nat} {t : SetTable} (R : PSet P w s.heap a L es ep t) {x : Addr} {k : List Key} (hx : MT P w s.heap k x) (hu : A.units < cLine) (hu1 : A.in1.units < cLine) (few : L.length + 1 < 64) {Q : Value → Shared → Prop}
    (q : ∀ h' tk L' es' ep' t', Heap.SameBut a s.heap h' → PSet P w h' a L' es' ep' t' → Added L L' x k → Q .none { s with heap := h', toks := tk }) : wpAny (model P w) A (call (.builtin "set.add") [.ref a, .ref x]) Q E s := by
  obtain ⟨o, ho, hex, hd⟩ := R.ob
  refine wpAny_call_entry F.slot_set_add ⟨o, ho, hex.1⟩ F.entry_set_add ?_ (F.args_set_add_2 _ _)
  unfold Builtin.«set.add» Builtin.Frozenset.oneOther; simp only [List.isEmpty_nil, bind_assoc]
  unfold Builtin.Frozenset.addrOf setAdd; refine wpAny_bind (wpAny_pure ?_)
  try dsimp only
  refine wpAny_bind (wpAny_pure ?_)
  try dsimp only
  refine wpAny_bind (wpAny_holding (wpAny_bind (wpAny_pyHash_tuple (by assumption) hx ?_)))
  refine PSet.add (s := { s with toks := s.toks + (k.length + 1) }) R hx (by assumption) few fun b h' L' es' ep' t' sb R' ad => ?_
  show wpAny _ _ (ret Value.none) _ _ _
  exact wpAny_pure ⟨_, rfl, q h' _ L' es' ep' t' sb R' ad⟩
end
section
variable {X : Cx} {pins : List (Addr × Obj)} {σ : L2.St} {H : Hp} {s : Shared}
theorem mt_of (I : Inv X pins σ H s) {b : Addr} {k : List Key} (h : SqT X.K H b (k.map kV)) : MT X.prog X.w s.heap k b := by
  obtain ⟨its, r, ⟨o, ho, hc, n, hd⟩, _⟩ := I.tuple h
  exact ⟨o, its.toArray, n, ho, hc, hd, by simpa using items_are r⟩
theorem addP_ok {E : Value → Shared → Prop} {a x : Addr} {L : List (Addr × List Key)} {k : List Key} {Q : Value → Shared → Prop} (I : Inv X pins σ H s) (ha : H a = some (PSO X.prog X.w a L)) (tup : ∀ p ∈ L, SqT X.K H p.1 (p.2.map kV)) (hx : SqT X.K H x (k.map kV)) (hu : X.A.units + 3 < cLine) (few : L.length + 1 < 64)
    (q : ∀ L' s', Added L L' x k → Inv X pins σ (upd H a (PSO X.prog X.w a L')) s' → Q .none s') : wpAny (model X.prog X.w) X.A (call (.builtin "set.add") [.ref a, .ref x]) Q E s := by
  have R0 : PS0 X.prog X.w s.heap a L := (I.hok a _ ha).1
  obtain ⟨es, ep, t, R⟩ := R0.full fun p hp => mt_of I (tup p hp)
  refine R.call_add (mt_of I hx) (by omega) (by show X.A.in1.units < cLine; unfold Around.in1; simp; omega) few fun h' tk L' es' ep' t' sb R' ad => ?_
  refine q L' _ ad (I.write (e := a) (t' := tk) (by rw [ha]; trivial) (.inl rfl) (fun b u hb hu => (sb.2 b hb).trans hu) ?_ (pso_ok R'.ps0))
  obtain ⟨o, ho, _⟩ := R'.ob
  exact ⟨o, ho⟩
end
/-! ### {elt for target in iter if ..}, elt a tuple of numbers and texts; D the new set -/
/-- what the turn's value does -/
def tAddP (P : Program) (w : World) (K : PySem.W.Frag) (D : Addr) (Nx : Hp → Prop) : VK := fun y H => ∃ (x : Addr) (k : List Key) (L : List (Addr × List Key)), y = .ref x ∧ SqT K H x (k.map kV) ∧ H D = some (PSO P w D L) ∧ (∀ p ∈ L, SqT K H p.1 (p.2.map kV)) ∧ L.length + 1 < 64 ∧
  ∀ L', Added L L' x k → Nx (upd H D (PSO P w D L'))
def tPc (P : Program) (w : World) (K : PySem.W.Frag) (wi : TI) (g : TG) (tt : TT) (te : TE) (vs : List Nat) : TE := fun σ H Q => wi σ H fun J H1 => ∀ D, H1 D = none → ∃ W : Nat → Nat → Hp → Prop, (∃ m, W 0 m (upd H1 D (PSO P w D []))) ∧ ∀ i m H, W i m H →
  (J.stop i H ∧ Q (.ref D) H) ∨ (J.go i H ∧ ∃ Nx : Hp → Prop, (∀ H', Nx H' → ∃ m', m' < m ∧ W (i + 1) m' H') ∧ ∀ x H', J.yld i H x H' → g x (wipe σ vs) H' fun σ2 H2 => wipe σ2 vs = wipe σ vs ∧ tt σ2 H2 fun b H3 => if b = true then te σ2 H3 (tAddP P w K D Nx) else Nx H3)
section
variable {X : Cx}
theorem psc_core {pins : List (Addr × Obj)} {s : Shared} {σ : L2.St} {H : Hp} {Q : VK} {elt tg iter : Expr} {ifs : List Expr} {scope : Scope} {own : List (PySem.Str × Nat)} {pos pos' : Pos} {wi : TI} {g : TG} {tt : TT} {te : TE} {use : Option (Value → Sem Unit)} {Qf : Value → Shared → Prop}
    (hc : X.calm = true) (hN : X.N.Nodup) (hu : X.A.units + 3 < cLine) (I : Inv X pins σ H s) (hi : PI X tg iter wi) (ok : BlkOk X.N X.env.scope scope own)
    (hg : ∀ (s : Shared) (H : Hp) (C : Addr) (cl : List (PySem.Str × Addr)) (fp : List Addr), PG (X.blk s H scope (compEnvC scope cl C X.env) fp) tg g) (ht : ∀ (s : Shared) (H : Hp) (C : Addr) (cl : List (PySem.Str × Addr)) (fp : List Addr), PTs (X.blk s H scope (compEnvC scope cl C X.env) fp) ifs tt)
    (he : ∀ (s : Shared) (H : Hp) (C : Addr) (cl : List (PySem.Str × Addr)) (fp : List Addr), PE (X.blk s H scope (compEnvC scope cl C X.env) fp) elt te) (hs : ∀ x, foldedSetIterable iter X.env x = pure x) (asks : tPc X.prog X.w X.K wi g tt te (own.map (·.2)) σ H Q)
    (out : ∀ D C s' m H', Inv X pins σ H' s' → Q (.ref D) H' → s'.heap.Ns C m → FpOk X pins H' C → compPost (model X.prog X.w) X.A X.xe use Qf (.ref D) C (.ok .next) s') :
    wpAny (model X.prog X.w) X.A (comprehension (.SetComp elt [⟨tg, iter, ifs, 0⟩] scope pos) scope X.env pos' (newSet (.type "set")) false (eval iter X.env) use) Qf X.xe s := by
  have free : ∀ y ∈ scope.names, y.2 = .free → ∃ c, X.env.cells.lookup y.1 = some c := fun y hy e => (ok.free y hy e).elim (fun k => I.ok.has _ (.inl k)) fun k => I.ok.has _ (.inr k)
  refine wpAny_comprehension_free (use := use) rfl hs (closure_ok free) ok.kind (fun y hy e => by rw [ok.uniq y hy, e]) (thn (hi.run pins s σ H _ I asks) fun xv s1 hx => thn hx fun itv s2 h2 => ?_)
  obtain ⟨it, fp, tn, J, H2, e, I2, T, st2, f2, q⟩ := h2
  subst e
  refine PpSet.newSet_ok (newEnv_comp ?_)
  generalize hD : s2.heap.objs.size = D
  obtain ⟨W, ⟨m0, w0⟩, turn⟩ := q D (I2.hok.fresh (Nat.le_of_eq hD))
  generalize hs3 : ({ s2 with heap := s2.heap.push { cls := .type "set", dict := none, data := .set #[] 0 (.fresh 0 0 (!X.w.params.followText "set-order")) } } : Shared) = s3
  have e3 : s3.heap = s2.heap.push (setFresh X.w) := by rw [← hs3]; rfl
  have grown : ∀ b o, s2.heap.get? b = some o → s3.heap.get? b = some o := fun b o e => by rw [e3]; exact Heap.get?_push_of_some _ e
  generalize hH3 : upd H2 D (PSO X.prog X.w D []) = H3 at w0
  have I3 : Inv X pins σ H3 s3 := by
    rw [← hH3, ← hs3]
    exact I2.laid (t' := s2.toks) (fun b o e => Heap.get?_push_of_some _ e) (Nat.le_of_eq hD) (pso_ok (ps0_fresh X.w (by rw [← hD]; exact Heap.get?_push_size _ rfl)))
  have f3 : ∀ b ∈ fp, FpOk X pins H3 b ∧ b < s3.heap.objs.size := fun b hb => by
    obtain ⟨o, eo, _⟩ := T.obj _ _ st2 b hb
    have lt : b < s2.heap.objs.size := Heap.lt_size eo
    have n := (f2 b hb).1
    refine ⟨⟨?_, (f2 b hb).2⟩, by rw [e3, Heap.size_push]; exact Nat.lt_succ_of_lt lt⟩
    rw [← hH3, upd_ne (by rw [← hD]; exact Nat.ne_of_lt lt)]
    exact n
  have n3 : ∀ b ∈ fp, H3 b = none := fun b hb => (f3 b hb).1.1
  have st3 : tn 0 s3.heap := T.keep _ _ _ st2 fun b _ o e => grown b o e
  generalize hcl : cellsFrom (s3.heap.objs.size + 1) scope.names (cloFrom X.env.cells scope.names []) = cl
  have I4 := block_start I3 ok hN f3
  rw [hcl] at I4
  have pg := hg s3 H3 s3.heap.objs.size cl fp; have pt := ht s3 H3 s3.heap.objs.size cl fp; have pe := he s3 H3 s3.heap.objs.size cl fp
  have main : codeAny (model X.prog X.w) X.A (.compStart (.SetComp elt [⟨tg, iter, ifs, 0⟩] scope pos) 0 (.ref it) (.ref D) (compEnvC scope cl s3.heap.objs.size X.env)) (compPost (model X.prog X.w) X.A X.xe use Qf (.ref D) s3.heap.objs.size)
      { s3 with heap := pushCells (s3.heap.push { cls := .type "dict", data := .dict #[] }) scope.names } := by
    generalize hce : compEnvC scope cl s3.heap.objs.size X.env = ce at I4 pg pt pe ⊢
    have lo : ce.locals = s3.heap.objs.size := by subst hce; rfl
    generalize hs4 : ({ s3 with heap := pushCells (s3.heap.push { cls := .type "dict", data := .dict #[] }) scope.names } : Shared) = s4 at I4 ⊢
    have st4 : tn 0 s4.heap := T.keep _ _ _ st3 fun b _ o e => by rw [← hs4]; exact pushCells_keeps _ _ _ _ (Heap.get?_push_of_some _ e)
    have its : ∀ {τ : L2.St} {Ha : Hp} {sa : Shared}, Inv (X.blk s3 H3 scope ce fp) [] τ Ha sa → (∀ b ∈ fp, Ha b = none) → ∀ b ∈ fp, FpOk (X.blk s3 H3 scope ce fp) [] Ha b := fun {τ Ha sa} J hn b hb =>
      ⟨hn b hb, (J.ok.exf b hb).1, J.ok.exfs b hb, .inl hb, fun x c e => (J.ok.exf b hb).2 x c e, fun p hp => absurd (show p ∈ ([] : List (Addr × Obj)) ++ [] from hp) (by simp)⟩
    refine PpSet.codeAny_compStart_set ?_ (T.self X.A 0 _ _ _ st4 ?_)
    all_goals
      refine PpSet.compLoopS_any (fun n sa => ∃ i Ha, Inv (X.blk s3 H3 scope ce fp) [] (wipe σ (own.map (·.2))) Ha sa ∧ tn i sa.heap ∧ (∀ b ∈ fp, Ha b = none) ∧ W i n Ha) ?_ m0 ⟨0, H3, I4, st4, n3, w0⟩
      rintro n s5 ⟨i, H5, I5, st5, n5, w5⟩
      rcases turn i n H5 w5 with ⟨stop, qq⟩ | ⟨goes, Nx, hNx, each⟩
      · refine thnF (T.done (X.blk s3 H3 scope ce fp) rfl rfl rfl hc i [] s5 _ H5 (fun _ _ => False) I5 (its I5 n5) st5 stop) fun r s6 ⟨hr, I6⟩ => ?_
        subst hr
        have back : Inv X pins σ H5 s6 := I3.call' (ch := fp) I6.os I6.base I6.hok I6.bare fun b hb => ⟨(f3 b hb).1.2.2.2.1, (f3 b hb).1.2.1, (f3 b hb).1.2.2.2.2.1, (f3 b hb).1.2.2.2.2.2⟩
        have nl : H5 ce.locals = none := I6.free
        obtain ⟨m, ns, _⟩ := I6.loc
        have ns' : s6.heap.Ns ce.locals m := ns
        rw [lo] at ns' nl
        exact out D s3.heap.objs.size s6 m H5 back qq ns' (I3.fpOk (Nat.le_refl _) nl)
      · refine thnF (T.item (X.blk s3 H3 scope ce fp) rfl rfl rfl hc i [] s5 _ H5 (fun _ _ => False) I5 (its I5 n5) st5 goes) fun r s6 ⟨u, hr, h6⟩ => ?_
        subst hr
        refine thnF h6 fun _ s7 ⟨x, H7, I7, r7, y7, st7, n7⟩ => ?_
        refine thnF (pg.run _ s7 _ H7 x u _ (I7.pinned (its I7 n7) (T.obj _ _ st7)) r7 (each x H7 y7)) fun _ s8 ⟨σ8, H8, I8, off, q8⟩ => ?_
        refine thnF (pt.run _ s8 σ8 H8 _ I8 q8) fun b s9 ⟨H9, I9, q9⟩ => ?_
        have ends : ∀ {sa : Shared} {Ha : Hp}, Inv (X.blk s3 H3 scope ce fp) ([] ++ pinsAt fp s7.heap) σ8 Ha sa → Nx Ha → ∃ m, m < n ∧ ∃ i Hb, Inv (X.blk s3 H3 scope ce fp) [] (wipe σ (own.map (·.2))) Hb sa ∧ tn i sa.heap ∧ (∀ b ∈ fp, Hb b = none) ∧ W i m Hb := fun {sa Ha} J nx => by
          obtain ⟨m', lt, w'⟩ := hNx Ha nx
          have held : ∀ b ∈ fp, ∀ o, s7.heap.get? b = some o → sa.heap.get? b = some o ∧ Ha b = none := fun b hb o e => by
            have z := J.pin (b, o) (List.mem_append_right _ (List.mem_append_right _ (mem_pinsAt hb e)))
            exact ⟨z.1, z.2.1⟩
          refine ⟨m', lt, i + 1, Ha, (J.unpinned (pins := [])).weak (by rw [← off, wipe_length]) (fun j v e => ?_), T.keep _ _ _ st7 fun b hb o e => (held b hb o e).1, fun b hb => ?_, w'⟩
          · rw [← off] at e
            exact (wipe_some e).1
          · obtain ⟨o, e, _⟩ := T.obj _ _ st7 b hb
            exact (held b hb o e).2
        cases b with
        | false =>
          simp only [Bool.false_eq_true, if_false] at q9 ⊢
          exact ends I9 q9
        | true =>
          simp only [if_true] at q9 ⊢
          refine thnF (pe.run _ s9 σ8 H9 _ I9 q9) fun z s10 ⟨yv, H10, I10, r10, xa, k, L, ey, hx, hD10, tup, few, nx⟩ => ?_
          subst ey
          cases (show z = Value.ref xa from r10)
          exact addP_ok (X := X.blk s3 H3 scope ce fp) I10 hD10 tup hx hu few fun L' s11 ad I11 => ends I11 (nx L' ad)
  subst hcl
  subst hs3
  exact main
theorem pe_psc {elt tg iter : Expr} {ifs : List Expr} {scope : Scope} {own : List (PySem.Str × Nat)} {pos : Pos} {wi : TI} {g : TG} {tt : TT} {te : TE} (hc : X.calm = true) (hN : X.N.Nodup) (hu : X.A.units + 3 < cLine) (hi : PI X tg iter wi) (ok : BlkOk X.N X.env.scope scope own)
    (hg : ∀ (s : Shared) (H : Hp) (C : Addr) (cl : List (PySem.Str × Addr)) (fp : List Addr), PG (X.blk s H scope (compEnvC scope cl C X.env) fp) tg g) (ht : ∀ (s : Shared) (H : Hp) (C : Addr) (cl : List (PySem.Str × Addr)) (fp : List Addr), PTs (X.blk s H scope (compEnvC scope cl C X.env) fp) ifs tt)
    (he : ∀ (s : Shared) (H : Hp) (C : Addr) (cl : List (PySem.Str × Addr)) (fp : List Addr), PE (X.blk s H scope (compEnvC scope cl C X.env) fp) elt te) (hs : ∀ x, foldedSetIterable iter X.env x = pure x := by intro _; rfl) :
    PE X (.SetComp elt [⟨tg, iter, ifs, 0⟩] scope pos) (tPc X.prog X.w X.K wi g tt te (own.map (·.2))) := by
  refine ⟨fun pins s σ H Q I h => ?_⟩
  rw [PpSet.eval_SetComp]
  refine psc_core hc hN hu I hi ok hg ht he hs h fun D C s' m H' J q hn ⟨f0, f1, f2, f3, f4, f5⟩ => ⟨m, hn, fun h2 sb => ?_⟩
  exact ⟨.ref D, H', J.turned (t' := s'.toks) (fun b o hb e => (sb.2 b hb).trans e) f0 f1 f3 f4 f5, rfl, q⟩
end
end DL

namespace DL
open PySem PySem.Spec PyProof.Rows L2
/-! ### len({e for x in xs}), e a tuple of numbers and texts -/
def keyD : Key → D
  | .inl i => .int i
  | .inr x => .str x
theorem keys_of {K : PySem.W.Frag} {H : Hp} : ∀ {ks : List Key} {xs : List V}, RpA K H xs (ks.map keyD) → xs = ks.map kV
  | [], _, .nil => rfl
  | .inl i :: ks, _, .cons r t => by
    cases (show Rp K H _ (.int i) from r)
    rw [keys_of t]
    rfl
  | .inr x :: ks, _, .cons r t => by
    cases (show Rp K H _ (.str x) from r)
    rw [keys_of t]
    rfl
section
variable {X : Cx}
def rLenP (P : Program) (w : World) : List V → Hp → VK → Prop := fun xs H Q => ∃ (a : Addr) (L : List (Addr × List Key)), xs = [.ref a] ∧ H a = some (PSO P w a L) ∧ Q (.int (L.length : Nat)) H
theorem call_lenP : CallR X (.builtin "len") (rLenP X.prog X.w) := by
  intro pins s σ H xs us Q I r ⟨a, L, e, ha, q⟩
  subst e
  rw [Vals.ref1 r]
  have R0 : PS0 X.prog X.w s.heap a L := (I.hok a _ ha).1
  obtain ⟨es, ep, t, ⟨o, ho, hex, hd⟩, rows, tab, nd, room, few⟩ := R0
  have sz := rows_size rows
  refine call_len_set ho hex hd ?_ (by rw [sz]; omega) ⟨.int (L.length : Nat), H, I.tok _, ⟨_, by rw [sz]⟩, q⟩
  have h1 := tab.sz
  rw [List.length_map] at h1
  unfold SetTable.fits SetTable.fill
  rw [tab.dm]
  simp only [Bool.and_eq_true, beq_iff_eq, decide_eq_true_eq, Array.size_empty]
  omega
end
/-! what else stands through a data step: tuples -/
def KeepU (H H' : Hp) : Prop := ∀ a xs, H a = some (.tup xs) → H' a = some (.tup xs)
theorem top_tup {K : PySem.W.Frag} {H R : Hp} {a : Addr} {d : D} {xs : List V} (t : Top K H R a d) : H a ≠ some (.tup xs) := by
  cases t with
  | lst e _ => rw [e]; exact fun z => by cases z
  | dK e _ _ => rw [e]; exact fun z => by cases z
  | dT e _ _ => rw [e]; exact fun z => by cases z
  | obj e _ _ _ => rw [e]; exact fun z => by cases z
  | slf e _ _ _ => rw [e]; exact fun z => by cases z
section
variable {C : Cq} {X : Cx} {H H' : Hp} {σ σ' : L2.St} {Γ Γ' : G} {Ts Ts' : List (V × B)} {tg : Expr}
theorem RS.keepu (r : RS C σ H Γ Ts) (q : RS ⟨C.K, C.bg, C.bl, C.S0, DL.now (Ts ++ pairs σ Γ) H⟩ σ' H' Γ' Ts') : KeepU H H' := fun a xs e => by
  refine q.rel.same a _ (fun hb => ?_) ?_
  · obtain ⟨_, _, _, _, h1, _⟩ := (r.rel.bag a hb).2.2
    rw [h1] at e
    cases e
  · show DL.now (Ts ++ pairs σ Γ) H a = _
    rw [now_out (fun z => ?_)]
    · exact e
    · obtain ⟨d, m⟩ := owns_mem z
      obtain ⟨c, ec, t⟩ := r.rel.ok _ m
      cases ec
      exact top_tup t e
theorem anyE_of2 {t : DE} {k : D → Prop} {Q : VK} (r : RS C σ H Γ Ts) (ht : t Γ k) (ans : ∀ v H' d, k d → RS C σ H' Γ ((v, .dat d) :: Ts) → KeepX H H' → KeepU H H' → Q v H') : anyE C.K C.bg C.bl t σ H Q :=
  ⟨C.S0, DL.now (Ts ++ pairs σ Γ) H, Γ, Ts, k, r.now, ht, fun v H' d hk q => ans v H' d hk (r.back q) (r.keepx q) (r.keepu q)⟩
end
/-! a thing that no data speaks of may change -/
section
variable {K : PySem.W.Frag} {H H' : Hp}
mutual
theorem Rp.monoX (h : ∀ a o, (∀ φ, o ≠ HO.ext φ) → H a = some o → H' a = some o) : ∀ {v : V} {d : D}, Rp K H v d → Rp K H' v d
  | _, _, .non => .non
  | _, _, .bl b => .bl b
  | _, _, .int i => .int i
  | _, _, .str x => .str x
  | _, _, .lst e r => .lst (h _ _ (fun _ z => by cases z) e) (RpA.monoX h r)
  | _, _, .tup e r => .tup (h _ _ (fun _ z => by cases z) e) (RpA.monoX h r)
  | _, _, .dK e k r => .dK (e.imp (h _ _ fun _ z => by cases z) fun ⟨o, e⟩ => ⟨o, h _ _ (fun _ z => by cases z) e⟩) k (RpA.monoX h r)
  | _, _, .dT e k r => .dT (e.imp (h _ _ fun _ z => by cases z) fun ⟨o, e⟩ => ⟨o, h _ _ (fun _ z => by cases z) e⟩) k (RpA.monoX h r)
  | _, _, .obj e k r c => .obj (h _ _ (fun _ z => by cases z) e) k (RpA.monoX h r) c
  | _, _, .slf e k r c => .slf (h _ _ (fun _ z => by cases z) e) k (RpA.monoX h r) c
  | _, _, .emp e => .emp e
theorem RpA.monoX (h : ∀ a o, (∀ φ, o ≠ HO.ext φ) → H a = some o → H' a = some o) : ∀ {vs : List V} {ds : List D}, RpA K H vs ds → RpA K H' vs ds
  | _, _, .nil => .nil
  | _, _, .cons r t => .cons (Rp.monoX h r) (RpA.monoX h t)
end
theorem top_monoX {R R' : Hp} {a : Addr} {d : D} (t : Top K H R a d) (ha : ∀ o, (∀ φ, o ≠ HO.ext φ) → H a = some o → H' a = some o) (hr : ∀ b o, (∀ φ, o ≠ HO.ext φ) → R b = some o → R' b = some o) : Top K H' R' a d := by
  cases t with
  | lst e r => exact .lst (ha _ (fun _ z => by cases z) e) (r.monoX hr)
  | dK e k r => exact .dK (ha _ (fun _ z => by cases z) e) k (r.monoX hr)
  | dT e k r => exact .dT (ha _ (fun _ z => by cases z) e) k (r.monoX hr)
  | obj e k r c => exact .obj (ha _ (fun _ z => by cases z) e) k (r.monoX hr) c
  | slf e k r c => exact .slf (ha _ (fun _ z => by cases z) e) k (r.monoX hr) c
end
theorem RelL.turn {C : Cq} {H : Hp} {L : List (V × B)} {D : Addr} {φ : Heap → Prop} {u : HO} (r : RelL C H L) (e : H D = some (.ext φ)) (h0 : C.H0 D = none) (hu : Thing (some u)) : RelL C (upd H D u) L := by
  have other : ∀ a o, (∀ φ, o ≠ HO.ext φ) → H a = some o → upd H D u a = some o := fun a o no ea => by
    rw [upd_ne (fun z => by rw [z, e] at ea; exact no φ (Option.some.inj ea).symm)]
    exact ea
  have inner : ∀ a o, (∀ φ, o ≠ HO.ext φ) → hid (sh C L) H a = some o → hid (sh C L) (upd H D u) a = some o := fun a o no ea => by
    obtain ⟨n, ea⟩ := hid_in ea
    exact hid_mk n (other a o no ea)
  have there : ∀ a, H a ≠ none → upd H D u a ≠ none := fun a n => by
    by_cases z : a = D
    · rw [z, upd_same]
      exact fun z => by cases z
    · rw [upd_ne z]
      exact n
  have thing : ∀ a, Thing (H a) → Thing (upd H D u a) := fun a n => by
    by_cases z : a = D
    · rw [z, upd_same]
      exact hu
    · rw [upd_ne z]
      exact n
  refine ⟨fun p hp => ?_, fun a ha => ⟨(r.own a ha).1, (r.own a ha).2.1, there a (r.own a ha).2.2⟩, r.nd, fun a ha => thing a (r.dom a ha), fun b hb => ?_, fun a o hb ea => ?_⟩
  · have q := r.ok p hp
    obtain ⟨v, b⟩ := p
    cases b with
    | dat d => exact Rp.monoX inner q
    | own d =>
      obtain ⟨a, ev, t⟩ := q
      exact ⟨a, ev, top_monoX t (fun o no ea => other a o no ea) inner⟩
    | bag => exact q
  · obtain ⟨s1, s2, i0, i1, i2, ns, b1, b2, b3, b4⟩ := r.bag b hb
    exact ⟨s1, s2, i0, i1, i2, ns, other _ _ (fun _ z => by cases z) b1, b2, other _ _ (fun _ z => by cases z) b3, b4⟩
  · rw [upd_ne (fun z => by rw [z, h0] at ea; cases ea)]
    exact r.same a o hb ea
section
variable {C : Cq} {X : Cx} {H H' : Hp} {σ σ' : L2.St} {Γ Γ' : G} {Ts Ts' : List (V × B)} {tg : Expr}
/-! sequences that a walk leaves as they are -/
def liftQ (C : Cq) (t : DI) : TI := fun σ H R => ∃ Γ Ts k, RS C σ H Γ Ts ∧ t Γ k ∧ ∀ J H' tmp ds, k ds → WkD C J tmp ds → (∀ i H x H', J.yld i H x H' → H' = H) → owns [tmp] = [] → RS C σ H' Γ (tmp :: Ts) → R J H'
structure IQ (C : Cq) (X : Cx) (tg iter : Expr) (t : DI) : Prop where
  pi : PI X tg iter (liftQ C t)
theorem iq_list {l : Expr} {a : DE} (hk : C.K = X.K) (h : ED C X l a) : IQ C X tg l (iL a) := ⟨(pi_list h.pe).weak fun σ H R ⟨Γ, Ts, k, r, h, z⟩ => ⟨Γ, Ts, _, r, h, fun v H' d ⟨ds, e, hd⟩ r' => by
  subst e
  have t := r'.top
  cases t with
  | @lst a xs _ e q => exact ⟨a, rfl, ⟨xs, SqL.of (hid_full _ _ e)⟩, by rw [← hk]; exact z _ _ _ _ hd wk_list (fun i H x H' y => y.1) rfl r'⟩⟩⟩
theorem iq_tup {l : Expr} {a : DE} (hk : C.K = X.K) (h : ED C X l a) : IQ C X tg l (iT a) := ⟨(pi_tup h.pe).weak fun σ H R ⟨Γ, Ts, k, r, h, z⟩ => ⟨Γ, Ts, _, r, h, fun v H' d ⟨ds, e, hd⟩ r' => by
  subst e
  have t := r'.top
  cases t with
  | @tup a xs _ e q => exact ⟨a, rfl, ⟨xs, SqT.of (hid_full _ _ e)⟩, by rw [← hk]; exact z _ _ _ _ hd wk_tup (fun i H x H' y => y.1) rfl r'⟩⟩⟩
theorem wk_emp {a : Addr} (h : KEmp C.K a) : WkD C (Itt C.K a) (.ref a, .dat .emp) [] :=
  ⟨fun i H L hi _ => absurd hi (Nat.not_lt_zero _), fun H L _ => ⟨[], h.sq, Nat.le_refl _⟩, fun i H x H' L hi _ _ => absurd hi (Nat.not_lt_zero _)⟩
def iE (a : DE) : DI := fun Γ k => a Γ fun d => d = .emp ∧ k []
theorem iq_emp {l : Expr} {a : DE} (hk : C.K = X.K) (h : ED C X l a) : IQ C X tg l (iE a) := ⟨(pi_tup h.pe).weak fun σ H R ⟨Γ, Ts, k, r, h, z⟩ => ⟨Γ, Ts, _, r, h, fun v H' d ⟨e, hd⟩ r' => by
  subst e
  have t := r'.top
  cases t with
  | @emp a e => exact ⟨a, rfl, ⟨[], by rw [← hk]; exact e.sq⟩, by rw [← hk]; exact z _ _ _ _ hd (wk_emp e) (fun i H x H' y => y.1) rfl r'⟩⟩⟩
theorem id_emp {l : Expr} {a : DE} (hk : C.K = X.K) (h : ED C X l a) : IDd C X tg l (iE a) := ⟨(pi_tup h.pe).weak fun σ H R ⟨Γ, Ts, k, r, h, z⟩ => ⟨Γ, Ts, _, r, h, fun v H' d ⟨e, hd⟩ r' => by
  subst e
  have t := r'.top
  cases t with
  | @emp a e => exact ⟨a, rfl, ⟨[], by rw [← hk]; exact e.sq⟩, by rw [← hk]; exact z _ _ _ _ hd (wk_emp e) rfl r'⟩⟩⟩
/-- a name, of a list or of a tuple -/
def iSq (i : Nat) : DI := fun Γ k => ∃ d ds, Γ[i]? = some (some (.dat d)) ∧ itemsD d = some ds ∧ k ds
theorem items_of {d : D} {ds : List D} (h : itemsD d = some ds) : d = .lst ds ∨ d = .tup ds ∨ (d = .emp ∧ ds = []) := by
  cases d with
  | lst xs => cases h; exact .inl rfl
  | tup xs => cases h; exact .inr (.inl rfl)
  | emp => cases h; exact .inr (.inr ⟨rfl, rfl⟩)
  | _ => cases h
theorem iq_sq (i : Nat) {x : Str} {pos : Pos} (hk : C.K = X.K) (hN : X.N[i]? = some x := by rfl) (hv : Vis X.env.scope x := by first | exact Or.inl rfl | exact Or.inr (Or.inl rfl) | exact Or.inr (Or.inr rfl)) (hd : (x == ("__debug__" : Str)) = false := by decide)
    (hcd : (x == ("__classdict__" : Str)) = false := by decide) : IQ C X tg (.Name x pos) (iSq i) := by
  have e : ED C X (.Name x pos) (dV i) := ed_v i hN hv hd hcd
  exact ⟨⟨fun pins s σ H R I ⟨Γ, Ts, k, r, ⟨d, ds, g, it, hds⟩, z⟩ => by
    rcases items_of it with rfl | rfl | ⟨rfl, rfl⟩
    · exact (iq_list hk e).pi.run pins s σ H R I ⟨Γ, Ts, k, r, ⟨_, g, ds, rfl, hds⟩, z⟩
    · exact (iq_tup hk e).pi.run pins s σ H R I ⟨Γ, Ts, k, r, ⟨_, g, ds, rfl, hds⟩, z⟩
    · exact (iq_emp hk e).pi.run pins s σ H R I ⟨Γ, Ts, k, r, ⟨_, g, rfl, hds⟩, z⟩⟩⟩
theorem id_sq (i : Nat) {x : Str} {pos : Pos} (hk : C.K = X.K) (hN : X.N[i]? = some x := by rfl) (hv : Vis X.env.scope x := by first | exact Or.inl rfl | exact Or.inr (Or.inl rfl) | exact Or.inr (Or.inr rfl)) (hd : (x == ("__debug__" : Str)) = false := by decide)
    (hcd : (x == ("__classdict__" : Str)) = false := by decide) : IDd C X tg (.Name x pos) (iSq i) := by
  have e : ED C X (.Name x pos) (dV i) := ed_v i hN hv hd hcd
  exact ⟨⟨fun pins s σ H R I ⟨Γ, Ts, k, r, ⟨d, ds, g, it, hds⟩, z⟩ => by
    rcases items_of it with rfl | rfl | ⟨rfl, rfl⟩
    · exact (id_list hk e).pi.run pins s σ H R I ⟨Γ, Ts, k, r, ⟨_, g, ds, rfl, hds⟩, z⟩
    · exact (id_tup hk e).pi.run pins s σ H R I ⟨Γ, Ts, k, r, ⟨_, g, ds, rfl, hds⟩, z⟩
    · exact (id_emp hk e).pi.run pins s σ H R I ⟨Γ, Ts, k, r, ⟨_, g, rfl, hds⟩, z⟩⟩⟩
theorem hu3 {A : Around} {k : Nat} (r : Room k A) : A.units + 3 < cLine := by have := hu64 r; omega
/-! the comprehension -/
def scK (p : Pat) (te : DE) (Γ0 : G) (k : List (List Key) → Prop) : List D → List (List Key) → Prop
  | [], acc => ∀ l : List (List Key), l.Nodup → (∀ x, x ∈ l ↔ x ∈ acc) → k l
  | d :: r, acc => ∃ Γ', setP p d Γ0 = some Γ' ∧ te Γ' fun y => ∃ ks : List Key, y = .tup (ks.map keyD) ∧ scK p te Γ0 k r (acc ++ [ks])
def dSc (p : Pat) (ti : DI) (te : DE) (vs : List Nat) (k : List (List Key) → Prop) : G → Prop := fun Γ => ti Γ fun ds => ds.length < 64 ∧ scK p te (wipeG Γ vs) k ds []
theorem psc_go {P : Program} {w : World} {p : Pat} {ti : DI} {te : DE} {vs : List Nat} {k : List (List Key) → Prop} (hp : ∀ j ∈ p.slots, j ∈ vs) (σ : L2.St) (H : Hp) (Q : VK)
    (h : ∃ Γ Ts, RS C σ H Γ Ts ∧ dSc p ti te vs k Γ ∧ ∀ D H' L, H' D = some (PSO P w D L) → (∀ q ∈ L, H' q.1 = some (.tup (q.2.map kV))) → k (L.map (·.2)) → RS C σ H' Γ Ts → Q (.ref D) H') :
    tPc P w C.K (liftQ C ti) (gP C.K p) tYes (anyE C.K C.bg C.bl te) vs σ H Q := by
  obtain ⟨Γ, Ts, r, h, ans⟩ := h
  refine ⟨Γ, Ts, _, r, h, fun J H1 tmp ds ⟨hlen, hd⟩ wk still ho r1 D hD => ?_⟩
  obtain ⟨e, pe, r2⟩ := r1.inBlk vs
  have r3 : RS C (wipe σ vs) (upd H1 D (PSO P w D [])) (wipeG Γ vs) (tmp :: (Ts ++ e)) := r2.grow (upd_keep hD)
  refine ⟨fun i m H => m = ds.length - i ∧ i ≤ ds.length ∧ ∃ (L : List (Addr × List Key)) (acc : List (List Key)), H D = some (PSO P w D L) ∧ (∀ q ∈ L, H q.1 = some (.tup (q.2.map kV))) ∧ (L.map (·.2)).Nodup ∧ (∀ x, x ∈ L.map (·.2) ↔ x ∈ acc) ∧ L.length ≤ i ∧
      RS C (wipe σ vs) H (wipeG Γ vs) (tmp :: (Ts ++ e)) ∧ scK p te (wipeG Γ vs) k (ds.drop i) acc,
    ⟨ds.length, rfl, Nat.zero_le _, [], [], upd_same, fun q hq => (by cases hq), List.nodup_nil, fun x => Iff.rfl, Nat.le_refl _, r3, hd⟩, ?_⟩
  rintro i m H ⟨rfl, hle, L, acc, hL, tup, nd, mem, few, r4, h4⟩
  by_cases hlt : i < ds.length
  · refine .inr ⟨wk.goes i H _ hlt r4.rel, fun H => ∃ (L : List (Addr × List Key)) (acc : List (List Key)), H D = some (PSO P w D L) ∧ (∀ q ∈ L, H q.1 = some (.tup (q.2.map kV))) ∧ (L.map (·.2)).Nodup ∧ (∀ x, x ∈ L.map (·.2) ↔ x ∈ acc) ∧ L.length ≤ i + 1 ∧
      RS C (wipe σ vs) H (wipeG Γ vs) (tmp :: (Ts ++ e)) ∧ scK p te (wipeG Γ vs) k (ds.drop (i + 1)) acc, fun H' z => ⟨ds.length - (i + 1), by omega, rfl, hlt, z⟩, fun x H2 y => ?_⟩
    have eH := still _ _ _ _ y
    obtain ⟨d, ed, r5⟩ := wk.yields i H x H2 _ hlt r4.rel y
    subst eH
    have edr : ds.drop i = d :: ds.drop (i + 1) := by
      obtain ⟨hl, e'⟩ := List.getElem?_eq_some_iff.mp ed
      rw [← e']
      exact List.drop_eq_getElem_cons hl
    rw [edr] at h4
    obtain ⟨Γ2, e2, h5⟩ := h4
    refine pat_go (show RS C (wipe σ vs) H2 (wipeG Γ vs) ((x, .dat d) :: tmp :: (Ts ++ e)) from ⟨r5, r4.len, r4.cov⟩) e2 fun σ3 r7 o1 o2 => ⟨(wipe_off (o1.mono hp)).trans rfl, ?_⟩
    have back : ∀ {H : Hp} {Us : List (V × B)}, RS C σ3 H Γ2 Us → RS C (wipe σ vs) H (wipeG Γ vs) Us := fun {H Us} z => by
      have z2 := z.wiped vs
      rw [wipe_off (o1.mono hp), wipeG_off (o2.mono hp)] at z2
      exact z2
    unfold tYes
    refine ite2 (fun _ => ?_) (fun z => absurd rfl z)
    refine anyE_of2 r7 h5 fun v H4 dy ⟨ks, ey, h6⟩ r8 kx ku => ?_
    subst ey
    have tv := r8.top1
    cases tv with
    | @tup xa xs _ ex qx =>
      rw [keys_of qx] at ex
      refine ⟨xa, ks, L, rfl, SqT.of ex, kx _ _ hL, fun q hq => SqT.of (ku _ _ (tup q hq)), by omega, fun L' ad => ?_⟩
      have hD4 : H4 D = some (PSO P w D L) := kx _ _ hL
      have keepT : ∀ a ys, H4 a = some (.tup ys) → upd H4 D (PSO P w D L') a = some (.tup ys) := fun a ys z => by
        rw [upd_ne (fun zz => by rw [zz, hD4] at z; cases z)]
        exact z
      have r9 : RS C (wipe σ vs) (upd H4 D (PSO P w D L')) (wipeG Γ vs) (tmp :: (Ts ++ e)) := ⟨(back r8.drop).rel.turn hD4 (r1.rel.h0 hD) True.intro, r4.len, r4.cov⟩
      rcases ad with ⟨inn, rfl⟩ | ⟨out, pm⟩
      · refine ⟨L', acc ++ [ks], upd_same, fun q hq => keepT _ _ (ku _ _ (tup q hq)), nd, fun z => ?_, by omega, r9, h6⟩
        rw [List.mem_append, List.mem_singleton, ← mem]
        exact ⟨.inl, fun z => z.elim id fun z => by rw [z]; exact inn⟩
      · refine ⟨L', acc ++ [ks], upd_same, fun q hq => ?_, (pm.map (·.2)).nodup_iff.mpr (by rw [List.map_cons]; exact List.nodup_cons.mpr ⟨out, nd⟩), fun z => ?_, by rw [pm.length_eq, List.length_cons]; omega, r9, h6⟩
        · rcases List.mem_cons.mp (pm.mem_iff.mp hq) with z | z
          · rw [z]; exact keepT _ _ ex
          · exact keepT _ _ (ku _ _ (tup q z))
        · rw [(pm.map (·.2)).mem_iff, List.map_cons, List.mem_cons, List.mem_append, List.mem_singleton, ← mem]
          exact Or.comm
  · have en : ds.drop i = [] := List.drop_eq_nil_of_le (by omega)
    rw [en] at h4
    have ei : i = ds.length := by omega
    refine .inl ⟨by rw [ei]; exact wk.stops H _ r4.rel, ans D H L hL tup (h4 _ nd mem) ⟨r4.rel.sub ?_, r1.len, r1.cov⟩⟩
    refine ⟨[tmp], ?_⟩
    have q : ((Ts ++ e) ++ pairs (wipe σ vs) (wipeG Γ vs)).Perm (Ts ++ pairs σ Γ) := by
      rw [List.append_assoc]
      exact (pe.symm).append_left Ts
    exact (q.cons tmp).trans (List.perm_append_singleton tmp _).symm
def dLenSc (p : Pat) (ti : DI) (te : DE) (vs : List Nat) : DE := fun Γ k => dSc p ti te vs (fun l => k (.int (l.length : Nat))) Γ
theorem ed_lenSc {p : Pat} {elt tg iter : Expr} {scope : Scope} {own : List (Str × Nat)} {q q2 pos : Pos} {ti : DI} {te : DE} (hk : C.K = X.K) (hc : X.calm = true) (hN : X.N.Nodup) (hu : X.A.units + 3 < cLine) (hl : Gl X "len") (hm : X.mg "len" = none) (hi : IQ C X tg iter ti) (ok : BlkOk X.N X.env.scope scope own)
    (hg : ∀ (s : Shared) (H : Hp) (A : Addr) (cl : List (Str × Addr)) (fp : List Addr), PG (X.blk s H scope (compEnvC scope cl A X.env) fp) tg (gP C.K p))
    (he : ∀ (s : Shared) (H : Hp) (A : Addr) (cl : List (Str × Addr)) (fp : List Addr) (S0 : Addr → Prop) (H0 : Hp), ED ⟨C.K, C.bg, C.bl, S0, H0⟩ (X.blk s H scope (compEnvC scope cl A X.env) fp) elt te) (hp : p.slots.all (fun j => (own.map (·.2)).contains j) = true := by rfl) (hs : ∀ x, foldedSetIterable iter X.env x = pure x := by intro _; rfl)
    (he1 : starEach [.SetComp elt [⟨tg, iter, [], 0⟩] scope q2] X.env = (false, eval (.SetComp elt [⟨tg, iter, [], 0⟩] scope q2) X.env) :: starEach [] X.env := by rfl) (hpl : (backTo pos (starEach [] X.env)).any (·.1) = false := by rfl) :
    ED C X (.Call (.Name "len" q) [.SetComp elt [⟨tg, iter, [], 0⟩] scope q2] [] pos) (dLenSc p ti te (own.map (·.2))) :=
  ⟨(pe_callB call_lenP hl hm PySem.boot_len (pa_cons (pe_psc hc hN hu hi.pi ok hg (fun _ _ _ _ _ => pts_nil) (fun a b c d e => pe_any fun S0 H0 => he a b c d e S0 H0) hs) pa_nil he1) (by decide) (by decide) he1 hpl).weak fun σ H Q ⟨Γ, Ts, k, r, h, ans⟩ => by
    show tPc X.prog X.w X.K (liftQ C ti) (gP C.K p) tYes (anyE C.K C.bg C.bl te) (own.map (·.2)) σ H (fun v H' => rLenP X.prog X.w [v] H' Q)
    rw [← hk]
    exact psc_go (k := fun l => k (.int (l.length : Nat))) (fun j hj => by simpa using List.all_eq_true.mp hp j hj) σ H _ ⟨Γ, Ts, r, h, fun D H' L hD tup hkk r' => ⟨D, L, rfl, hD, ans _ _ _ (by simpa using hkk) (r'.int _)⟩⟩⟩
end
end DL

namespace DL
open PySem PySem.Spec PyProof.Rows L2 Srt
/-! ### sorted(rows): rows are tuples that begin with a path (a tuple of texts), the paths all different -/
def pthD (ks : List Str) : PyData := .tuple (ks.map .str)
def ltK (a b : List Str) : Bool := PySem.W.dataLt (pthD a) (pthD b)
theorem alike_strs : ∀ a b : List Str, PySem.W.alikeAll (a.map PyData.str) (b.map PyData.str) = true
  | [], [] => by simp [PySem.W.alikeAll]
  | [], _ :: _ => by simp [PySem.W.alikeAll]
  | _ :: _, [] => by simp [PySem.W.alikeAll]
  | x :: a, y :: b => by simp [PySem.W.alikeAll, PySem.W.alike, alike_strs a b]
theorem alike_p (a b : List Str) : PySem.W.alike (pthD a) (pthD b) = true := by
  unfold pthD
  rw [PySem.W.alike]
  exact alike_strs a b
theorem eqv_strs : ∀ a b : List Str, PyData.eqvAll (a.map PyData.str) (b.map PyData.str) = decide (a = b)
  | [], [] => by simp [PyData.eqvAll]
  | [], _ :: _ => by simp [PyData.eqvAll]
  | _ :: _, [] => by simp [PyData.eqvAll]
  | x :: a, y :: b => by
    simp only [List.map_cons, PyData.eqvAll, eqv_strs a b, PyData.eqv]
    by_cases h : x = y <;> simp [h]
theorem eqv_p (a b : List Str) : PyData.eqv (pthD a) (pthD b) = decide (a = b) := by
  unfold pthD
  rw [PyData.eqv]
  exact eqv_strs a b
theorem depth_strs : ∀ a : List Str, PyData.depthAll (a.map PyData.str) = 0
  | [] => by simp [PyData.depthAll]
  | x :: a => by simp [PyData.depthAll, PyData.depth, depth_strs a]
theorem depth_p (a : List Str) : (pthD a).depth ≤ 1 := by
  unfold pthD
  simp [PyData.depth, depth_strs]
theorem ltK_swo : SrtO.Swo ltK := by
  refine ⟨fun x y h => ?_, fun x y z h1 h2 => ?_⟩
  · cases q : ltK y x with
    | false => rfl
    | true =>
      have t := (listOrd itemOrd).trans _ _ _ h q
      have i := (listOrd itemOrd).irrefl (PySem.W.keyToks (pthD x))
      exact absurd (t.symm.trans i) (by simp)
  · cases q : ltK z x with
    | false => rfl
    | true =>
      rcases (listOrd itemOrd).negTrans _ (PySem.W.keyToks (pthD y)) _ q with t | t
      · exact absurd (t.symm.trans h2) (by simp)
      · exact absurd (t.symm.trans h1) (by simp)
/-- v is a row of the path ks, its thing nv -/
def IsRow (h : Heap) (v : Value) (ks : List Str) (nv : Value) : Prop := ∃ (a : Addr) (o : Obj) (p : Addr) (op : Obj) (its : Array Value) (n m : Nat), v = .ref a ∧ h.get? a = some o ∧ o.cls = .type "tuple" ∧ o.data = .seq #[.ref p, nv] n ∧
  h.get? p = some op ∧ op.cls = .type "tuple" ∧ op.data = .seq its m ∧ Vals (ks.map V.str) its.toList
theorem IsRow.keeps {h h' : Heap} {v : Value} {ks : List Str} {nv : Value} (r : IsRow h v ks nv) (k : ∀ b o, h.get? b = some o → o.cls = .type "tuple" → h'.get? b = some o) : IsRow h' v ks nv := by
  obtain ⟨a, o, p, op, its, n, m, e, ho, hc, hd, hp, hpc, hpd, hi⟩ := r
  exact ⟨a, o, p, op, its, n, m, e, k _ _ ho hc, hc, hd, k _ _ hp hpc, hpc, hpd, hi⟩
theorem reads_strs {h : Heap} : ∀ {ks : List Str} {us : List Value}, Vals (ks.map V.str) us → ReadsAll h us (ks.map PyData.str) []
  | [], _, .nil => .nil
  | x :: ks, _, .cons r t => by
    obtain ⟨tk, rfl⟩ := (show ∃ t, _ = Value.str x t from r)
    exact ReadsAll.cons (as := []) (Reads.str x tk) (reads_strs t)
section
variable {prog : Program} {w : World} {A : Around} {E : Value → Shared → Prop} {s : Shared}
theorem rows_cmp {vs : List Value} {k : Value → List Str} {nd : Value → Value} (hu : A.units + 1 < cLine) (hp : ∀ v ∈ vs, IsRow s.heap v (k v) (nd v)) (inj : ∀ v ∈ vs, ∀ u ∈ vs, k v = k u → v = u) : SrtO.Cmp prog w A s (tuples' false) (fun p => p.1 ∈ vs) (SrtO.lt2 fun v u => ltK (k v) (k u)) := by
  intro p q hm hm'
  show wpAny (model prog w) A (keyLt' (tuples' false) p.1 q.1) (fun r s' => s' = s ∧ r = ltK (k p.1) (k q.1)) (fun _ _ => False) s
  have h1 := hp _ hm
  have h2 := hp _ hm'
  have same := inj _ hm _ hm'
  generalize k p.1 = x at h1 same ⊢
  generalize k q.1 = y at h2 same ⊢
  generalize nd p.1 = n1 at h1
  generalize nd q.1 = n2 at h2
  obtain ⟨a, o, pa, op, its, n, m, e, ho, hc, hd, hpo, hpc, hpd, hi⟩ := h1
  obtain ⟨a', o', pa', op', its', n', m', e', ho', hc', hd', hpo', hpc', hpd', hi'⟩ := h2
  have ra : Reads s.heap (.ref pa) (pthD x) [] := Reads.tuple hpo hpc hpd (reads_strs hi)
  have rb : Reads s.heap (.ref pa') (pthD y) [] := Reads.tuple hpo' hpc' hpd' (reads_strs hi')
  have room : A.units + min (pthD x).depth (pthD y).depth < cLine := by
    have := depth_p x
    omega
  rw [e, e'] at same ⊢
  refine PySem.W.kat_lt ho hd ho' hd' ?_
  show PySem.W.KatLex prog w A false (decide (2 < 2)) _ [(.ref pa, .ref pa'), (n1, n2)] 0 s
  refine PySem.W.kat_cons (PySem.W.eqAt_alike _ _ A s _ _ [] [] ra rb (alike_p x y) room prog w _ _ ?_)
  rw [eqv_p]
  by_cases exy : x = y
  · have ev := same exy
    cases ev
    rw [ho] at ho'
    cases ho'
    rw [hd] at hd'
    cases hd'
    rw [decide_eq_true exy]
    refine PySem.W.kat_yes (PySem.W.kat_cons (SeqAt.EqAt.same _ prog w _ _ (PySem.W.kat_yes (PySem.W.kat_nil ⟨rfl, ?_⟩))))
    rw [exy, ltK_swo.refl]
    rfl
  · rw [decide_eq_false exy]
    exact PySem.W.kat_no (PySem.W.oneLt_alike (fun z => by cases z) ra rb (alike_p x y) (fun z => by cases z) room ⟨rfl, rfl⟩)
theorem rows_firsts {h : Heap} {k : Value → List Str} {nd : Value → Value} : ∀ {vs : List Value}, (∀ v ∈ vs, IsRow h v (k v) (nd v)) → ∃ fs, PySem.W.KatTups h vs fs ∧ fs.length = vs.length ∧ ∀ f ∈ fs, ∃ p op, f = Value.ref p ∧ h.get? p = some op ∧ op.cls = .type "tuple"
  | [], _ => ⟨[], PySem.W.KatTups.nil, rfl, fun _ z => by cases z⟩
  | v :: vs, hp => by
    obtain ⟨fs, h1, h2, h3⟩ := rows_firsts fun u hu => hp u (List.mem_cons_of_mem _ hu)
    obtain ⟨a, o, p, op, its, n, m, e, ho, hc, hd, hpo, hpc, _⟩ := hp v List.mem_cons_self
    rw [e]
    refine ⟨.ref p :: fs, PySem.W.KatTups.cons ho hc hd rfl h1, congrArg (· + 1) h2, fun f hf => ?_⟩
    rcases List.mem_cons.mp hf with z | z
    · exact ⟨p, op, z, hpo, hpc⟩
    · exact h3 f z
theorem rows_sortable {a : Addr} {vs : List Value} {k : Value → List Str} {nd : Value → Value} (h0 : 0 < vs.length) (hu : A.units + 1 < cLine) (hp : ∀ v ∈ vs, IsRow s.heap v (k v) (nd v)) (inj : ∀ v ∈ vs, ∀ u ∈ vs, k v = k u → v = u) (ha : ∀ o, s.heap.get? a = some o → o.cls ≠ .type "tuple") :
    SrtO.SortableO prog w A s a vs fun v u => ltK (k v) (k u) := by
  intro h' keep
  have hp' : ∀ v ∈ vs, IsRow h' v (k v) (nd v) := fun v hm => (hp v hm).keeps fun b o e c => keep b o (fun z => ha o (by rw [← z]; exact e) c) e
  obtain ⟨fs, h1, h2, h3⟩ := rows_firsts hp'
  refine ⟨tuples' false, fun Q E hq => ?_, rows_cmp (s := { s with heap := h' }) hu hp' inj⟩
  refine PySem.W.kat_kind (T := .type "tuple") h1 (by omega) (fun f hm => ?_) (by rfl) ?_
  · obtain ⟨p, op, rfl, hpo, hpc⟩ := h3 f hm
    exact fun A' Q' E' s' kk q => wpAny_typeOf ⟨op, kk _ _ hpo, hpc⟩ q
  · rw [show (Value.type "tuple" != Value.type "tuple") = false by decide +kernel]
    exact hq
/-- sorted(xs), xs a list or a tuple, by any strict weak order that the comparisons keep -/
theorem sorted_seq {l : Addr} {T : String} {o : Obj} {items : Array Value} {n : Nat} {ltv : Value → Value → Bool} {Q : Value → Shared → Prop} (O : SrtO.Swo ltv) (hT : T = "list" ∨ T = "tuple") (ho : s.heap.get? l = some o) (hc : o.cls = .type T) (hd : o.data = .seq items n) (hz : items.size ≤ sizeLine)
    (hS : 2 ≤ items.toList.length → ∀ (h₁ : Heap) (a : Addr), h₁.get? a = some (seqObj "list" items.toList.toArray 0) → (∀ b o, s.heap.get? b = some o → b ≠ a ∧ h₁.get? b = some o) → SrtO.SortableO prog w A.in1.in1 { s with heap := h₁ } a items.toList ltv)
    (h : ∀ h' d out, SrtO.Srtd ltv out → SrtO.Stb ltv out items.toList → (∀ b o, s.heap.get? b = some o → h'.get? b = some o) → s.heap.get? d = none → (∃ e, h'.get? d = some (seqObj "list" out.toArray e)) → Q (.ref d) { s with heap := h' }) :
    wpAny (model prog w) A (call (.builtin "sorted") [.ref l]) Q E s := by
  refine Calls.call_function_entry kind_sorted plain_sorted entry_sorted (args_sorted1 _) ?_
  unfold Builtin.«sorted»
  refine wpAny_bind (m := checkCount "sorted" 1 1 _) (wpAny_pure (wpAny_bind (wpAny_collect_seq l hT ho hc hd (fun h1 k1 => ?_) hz)))
  refine wpAny_bind (wpAny_newList ?_ (by rw [Array.length_toList]; exact hz))
  have there : (h1.push (seqObj "list" items.toList.toArray 0)).get? h1.objs.size = some (seqObj "list" items.toList.toArray 0) := Heap.get?_push_size _ rfl
  have keep : ∀ b o, s.heap.get? b = some o → b ≠ h1.objs.size ∧ (h1.push (seqObj "list" items.toList.toArray 0)).get? b = some o := fun b o q => ⟨Nat.ne_of_lt (Heap.lt_size (k1 b o q)), Heap.get?_push_of_some _ (k1 b o q)⟩
  show wpAny _ _ _ _ _ { s with heap := h1.push (seqObj "list" items.toList.toArray 0) }
  refine wpAny_bind (wpAny_holding (wpAny_call_entry slot_list_sort ⟨_, there, rfl⟩ entry_list_sort (SrtO.list_sort_ord O there (by rw [Array.length_toList]; exact hz) (fun h2 => hS h2 _ _ there keep) fun out hs hb => ⟨_, rfl, ?_⟩) (args_list_sort _)))
  refine wpAny_pure ⟨_, rfl, h _ _ out hs hb (fun b o q => ?_) ?_ (sortedHeap_at there)⟩
  · obtain ⟨ne, e⟩ := keep b o q
    exact (sortedHeap_old ne (Heap.lt_size e)).trans e
  · cases q : s.heap.get? h1.objs.size with
    | none => rfl
    | some o => exact absurd rfl (keep _ _ q).1
end
end DL

namespace DL
open PySem PySem.Spec PyProof.Rows L2
/-- the path that a row begins with, by the heap -/
def pathAt (H : Hp) : V → List Str
  | .ref t => match H t with
    | some (.tup (.ref p :: _)) => match H p with
      | some (.tup us) => us.filterMap fun u => match u with | .str x => some x | _ => none
      | _ => []
    | _ => []
  | _ => []
theorem strs_back : ∀ ks : List Str, (ks.map V.str).filterMap (fun u => match u with | .str x => some x | _ => none) = ks
  | [] => rfl
  | x :: ks => congrArg (x :: ·) (strs_back ks)
theorem pathAt_of {H : Hp} {t p : Addr} {y : V} {ks : List Str} (h1 : H t = some (.tup [.ref p, y])) (h2 : H p = some (.tup (ks.map V.str))) : pathAt H (.ref t) = ks := by
  simp only [pathAt, h1, h2]
  exact strs_back ks
def RowAt (H : Hp) (x : V) : Prop := ∃ (t p : Addr) (y : V) (ks : List Str), x = .ref t ∧ H t = some (.tup [.ref p, y]) ∧ H p = some (.tup (ks.map V.str))
def rSortRows (K : PySem.W.Frag) : List V → Hp → VK → Prop := fun vs H Q => ∃ (a : Addr) (xs : List V), vs = [.ref a] ∧ (SqL K H a xs ∨ SqT K H a xs) ∧ (∀ x ∈ xs, RowAt H x) ∧ (∀ x ∈ xs, ∀ y ∈ xs, pathAt H x = pathAt H y → x = y) ∧
  ∀ ys p, ys.Pairwise (fun x y => ltK (pathAt H y) (pathAt H x) = false) → ys.Perm xs → H p = none → Q (.ref p) (upd H p (.lst ys))
section
variable {X : Cx}
theorem isRow_of {pins : List (Addr × Obj)} {σ : L2.St} {H : Hp} {s : Shared} (I : Inv X pins σ H s) {t p : Addr} {y : V} {ks : List Str} (h1 : H t = some (.tup [.ref p, y])) (h2 : H p = some (.tup (ks.map V.str))) : ∃ nv, IsRow s.heap (.ref t) ks nv := by
  obtain ⟨its, r, ⟨o, ho, hc, n, hd⟩, _⟩ := I.tuple (SqT.of h1)
  obtain ⟨its2, r2, ⟨o2, ho2, hc2, n2, hd2⟩, _⟩ := I.tuple (SqT.of h2)
  obtain ⟨u1, u2, rfl, rp, ry⟩ := vals2 r
  cases rp
  exact ⟨u2, t, o, p, o2, its2.toArray, n, n2, rfl, ho, hc, hd, ho2, hc2, hd2, by simpa using r2⟩
theorem call_sortRows (hu : X.A.units + 8 < cLine) : CallR X (.builtin "sorted") (rSortRows X.K) := by
  intro pins s σ H vs us Q I r ⟨a, xs, e, hs, rows, inj, q⟩
  subst e
  rw [Vals.ref1 r]
  have seq : ∃ (T : String) (o : Obj) (its : List Value) (n : Nat), (T = "list" ∨ T = "tuple") ∧ s.heap.get? a = some o ∧ o.cls = .type T ∧ o.data = .seq its.toArray n ∧ Vals xs its ∧ its.length ≤ sizeLine := by
    rcases hs with hs | hs
    · obtain ⟨its, rv, pl, hz⟩ := I.list hs
      obtain ⟨o, ho, hc, n, hd⟩ := pl.isList
      exact ⟨"list", o, its, n, .inl rfl, ho, hc, hd, rv, by rw [← rv.length]; exact hz⟩
    · obtain ⟨its, rv, ⟨o, ho, hc, n, hd⟩, hz⟩ := I.tuple hs
      exact ⟨"tuple", o, its, n, .inr rfl, ho, hc, hd, rv, by rw [← rv.length]; exact hz⟩
  obtain ⟨T, o, its, n, hT, ho, hc, hd, rv, hz⟩ := seq
  obtain ⟨e1, e2⟩ := refs_back rv fun x m => by
    obtain ⟨t, _, _, _, e, _⟩ := rows x m
    exact ⟨t, e⟩
  have rowV : ∀ v ∈ its, ∃ nv, IsRow s.heap v (pathAt H (backV v)) nv := fun v hv => by
    have hm : backV v ∈ xs := by rw [e1]; exact List.mem_map.mpr ⟨_, hv, rfl⟩
    obtain ⟨b, rfl⟩ := e2 v hv
    obtain ⟨t, p, y, ks, e, h1, h2⟩ := rows _ hm
    cases (show V.ref b = V.ref t from e)
    rw [show pathAt H (backV (.ref b)) = ks from pathAt_of h1 h2]
    exact isRow_of I h1 h2
  have nds : ∃ nd : Value → Value, ∀ v ∈ its, IsRow s.heap v (pathAt H (backV v)) (nd v) :=
    ⟨fun v => open Classical in if h : ∃ nv, IsRow s.heap v (pathAt H (backV v)) nv then h.choose else .none, fun v hv => by
      have h := rowV v hv
      simp only [dif_pos h]
      exact h.choose_spec⟩
  obtain ⟨nd, hnd⟩ := nds
  have injV : ∀ v ∈ its, ∀ u ∈ its, pathAt H (backV v) = pathAt H (backV u) → v = u := fun v hv u hu' e => by
    obtain ⟨b, rfl⟩ := e2 v hv
    obtain ⟨c, rfl⟩ := e2 u hu'
    have z := inj (backV (.ref b)) (by rw [e1]; exact List.mem_map.mpr ⟨_, hv, rfl⟩) (backV (.ref c)) (by rw [e1]; exact List.mem_map.mpr ⟨_, hu', rfl⟩) e
    cases (show V.ref b = V.ref c from z)
    rfl
  have swo : SrtO.Swo fun v u : Value => ltK (pathAt H (backV v)) (pathAt H (backV u)) := ⟨fun x y h => ltK_swo.asym _ _ h, fun x y z h1 h2 => ltK_swo.tr _ _ _ h1 h2⟩
  refine sorted_seq swo hT ho hc hd (by simpa using hz) (fun h2 h₁ d hd1 keep => ?_) fun h' d out srt stb k dn there => ?_
  · refine rows_sortable (s := { s with heap := h₁ }) (nd := nd) (by omega) (by show X.A.in1.in1.units + 1 < cLine; unfold Around.in1; simp; omega) (fun v hv => (hnd v (by simpa using hv)).keeps fun b o e _ => (keep b o e).2) (fun v hv u hu' => injV v (by simpa using hv) u (by simpa using hu')) fun o e c => ?_
    have e' : some o = some (seqObj "list" its.toArray.toList.toArray 0) := e.symm.trans hd1
    cases e'
    exact absurd (Value.type.inj c) (by decide)
  · have pm : out.Perm its := by simpa using stb.perm
    have refs : ∀ u ∈ out, ∃ a, u = Value.ref a := fun u hu' => e2 u (pm.mem_iff.mp hu')
    obtain ⟨n', hn'⟩ := there
    refine ⟨.ref d, upd H d (.lst (out.map backV)), I.laidN (t' := s.toks) k dn (I.hok.gone dn) ⟨?_, out, n', vals_back refs, hn'⟩, rfl, q _ d (List.pairwise_map.mpr srt) ?_ (I.hok.gone dn)⟩
    · rw [List.length_map, pm.length_eq]
      exact hz
    · rw [e1]
      exact pm.map backV
end
/-! the same of data -/
def keyS : D → List Str
  | .tup (.tup us :: _) => us.filterMap fun u => match u with | .str x => some x | _ => none
  | _ => []
def fSort : FB := fun ds k => ∃ x xs, ds = [x] ∧ itemsD x = some xs ∧ (∀ d ∈ xs, ∃ (ks : List Str) (y : D), d = .tup [.tup (ks.map D.str), y]) ∧ (xs.map keyS).Nodup ∧
  ∀ out : List D, out.Perm xs → out.Pairwise (fun d e => ltK (keyS e) (keyS d) = false) → k (.lst out)
theorem keyS_of : ∀ ks : List Str, (ks.map D.str).filterMap (fun u => match u with | .str x => some x | _ => none) = ks
  | [] => rfl
  | x :: ks => congrArg (x :: ·) (keyS_of ks)
theorem strsV_of {K : PySem.W.Frag} {H : Hp} : ∀ {ks : List Str} {xs : List V}, RpA K H xs (ks.map D.str) → xs = ks.map V.str
  | [], _, .nil => rfl
  | x :: ks, _, .cons r t => by
    cases (show Rp K H _ (.str x) from r)
    rw [strsV_of t]
    rfl
theorem RpA.perm {K : PySem.W.Frag} {H : Hp} {ys xs : List V} (p : ys.Perm xs) : ∀ {ds : List D}, RpA K H xs ds → ∃ es, es.Perm ds ∧ RpA K H ys es := by
  induction p with
  | nil => exact fun {ds} r => ⟨ds, .refl _, r⟩
  | cons x _ ih =>
    intro ds r
    cases r with
    | cons a b =>
      obtain ⟨es, h1, h2⟩ := ih b
      exact ⟨_, h1.cons _, .cons a h2⟩
  | swap x y l =>
    intro ds r
    cases r with
    | cons a b =>
      cases b with
      | cons b c => exact ⟨_, .swap _ _ _, .cons b (.cons a c)⟩
  | trans _ _ i1 i2 =>
    intro ds r
    obtain ⟨es, h1, h2⟩ := i2 r
    obtain ⟨fs, h3, h4⟩ := i1 h2
    exact ⟨fs, h3.trans h1, h4⟩
theorem RpA.pairs {K : PySem.W.Frag} {H : Hp} {R : V → V → Prop} {S : D → D → Prop} : ∀ {ys : List V} {ds : List D}, RpA K H ys ds → (∀ x y d e, x ∈ ys → y ∈ ys → d ∈ ds → e ∈ ds → Rp K H x d → Rp K H y e → R x y → S d e) → ys.Pairwise R → ds.Pairwise S
  | _, _, .nil, _, _ => .nil
  | x :: ys, d :: ds, .cons a b, h, p => by
    obtain ⟨p1, p2⟩ := List.pairwise_cons.mp p
    refine .cons (fun e he => ?_) (RpA.pairs b (fun x y d e h1 h2 h3 h4 => h x y d e (List.mem_cons_of_mem _ h1) (List.mem_cons_of_mem _ h2) (List.mem_cons_of_mem _ h3) (List.mem_cons_of_mem _ h4)) p2)
    obtain ⟨i, hi⟩ := List.mem_iff_getElem?.mp he
    obtain ⟨v, hv, rv⟩ := b.get hi
    have mv := List.mem_of_getElem? hv
    exact h x v d e List.mem_cons_self (List.mem_cons_of_mem _ mv) List.mem_cons_self (List.mem_cons_of_mem _ he) a rv (p1 v mv)
theorem row_rp {K : PySem.W.Frag} {H : Hp} {x : V} {ks : List Str} {y : D} (r : Rp K H x (.tup [.tup (ks.map D.str), y])) : RowAt H x ∧ pathAt H x = keyS (.tup [.tup (ks.map D.str), y]) := by
  cases r with
  | tup e q =>
    cases q with
    | cons q1 q2 =>
      cases q2 with
      | cons q2 q3 =>
        cases q3
        cases q1 with
        | tup e2 q4 =>
          rw [strsV_of q4] at e2
          exact ⟨⟨_, _, _, ks, rfl, e, e2⟩, (pathAt_of e e2).trans (keyS_of ks).symm⟩
theorem cc_sort {C : Cq} : CallC C (rSortRows C.K) fSort := fun σ H Γ Ts vs ds k Q q ⟨x0, xs, h0, it, rows, nd, hk⟩ ans => by
  have seq : ∃ (a : Addr) (us : List V), vs = [.ref a] ∧ (SqL C.K H a us ∨ SqT C.K H a us) ∧ RpA C.K (hid (sh C (Ts ++ pairs σ Γ)) H) us xs := by
    subst h0
    obtain ⟨v, rfl, t⟩ := q.one
    rcases items_of it with rfl | rfl | ⟨rfl, rfl⟩
    · cases t with
      | lst e r => exact ⟨_, _, rfl, .inl (SqL.of (hid_full _ _ e)), r⟩
    · cases t with
      | tup e r => exact ⟨_, _, rfl, .inr (SqT.of (hid_full _ _ e)), r⟩
    · cases t with
      | emp e => exact ⟨_, [], rfl, .inr e.sq, .nil⟩
  obtain ⟨a, us, ev, hs, r⟩ := seq
  have rowOf : ∀ {x : V} {d : D}, d ∈ xs → Rp C.K (hid (sh C (Ts ++ pairs σ Γ)) H) x d → RowAt H x ∧ pathAt H x = keyS d := fun {x d} hd rx => by
    obtain ⟨ks, y, rfl⟩ := rows d hd
    exact row_rp (rx.mono hid_full)
  refine ⟨a, us, ev, hs, fun x hx => ?_, fun x hx y hy e => ?_, fun ys p srt pm np => ?_⟩
  · obtain ⟨i, hi⟩ := List.mem_iff_getElem?.mp hx
    obtain ⟨d, hd, rd⟩ := r.get' hi
    exact (rowOf (List.mem_of_getElem? hd) rd).1
  · obtain ⟨i, hi⟩ := List.mem_iff_getElem?.mp hx
    obtain ⟨j, hj⟩ := List.mem_iff_getElem?.mp hy
    obtain ⟨d, hd, rd⟩ := r.get' hi
    obtain ⟨d2, hd2, rd2⟩ := r.get' hj
    have ek : keyS d = keyS d2 := by rw [← (rowOf (List.mem_of_getElem? hd) rd).2, e, (rowOf (List.mem_of_getElem? hd2) rd2).2]
    have li : i < (xs.map keyS).length := by rw [List.length_map]; exact (List.getElem?_eq_some_iff.mp hd).1
    have ij : i = j := (List.getElem?_inj li nd).mp (by rw [List.getElem?_map, List.getElem?_map, hd, hd2]; exact congrArg some ek)
    subst ij
    rw [hi] at hj
    cases hj
    rfl
  · obtain ⟨es, pe, re⟩ := r.perm pm
    refine ans _ _ _ (hk es pe (re.pairs (fun x y d e _ _ hd he rx ry hxy => ?_) srt)) (q.1.newL np re)
    rw [← (rowOf (pe.mem_iff.mp hd) rx).2, ← (rowOf (pe.mem_iff.mp he) ry).2]
    exact hxy
end DL

namespace DL
open PySem PySem.Spec PyProof.Rows L2
/-! ### {k: v for x in xs if ..}, the keys tuples of numbers and texts; D the new dict -/
theorem dictSetT {X : Cx} {pins : List (Addr × Obj)} {σ : L2.St} {H : Hp} {s : Shared} {E : Value → Shared → Prop} {D x : Addr} {kvs : List (List Key × V)} {k : List Key} {v : V} {r : Value} {Q : Unit → Shared → Prop} (hu : X.A.units + 3 < cLine) (I : Inv X pins σ H s) (hD : H D = some (.dT kvs)) (hz : kvs.length < sizeLine)
    (hx : H x = some (.tup (k.map kV))) (rv : RelV v r) (q : ∀ s', Inv X pins σ (upd H D (.dT (putK kvs k v))) s' → Q () s') : wpAny (model X.prog X.w) X.A (dictSet D (.ref x) r) Q E s := by
  obtain ⟨z, hd, xs, rel, dd⟩ := dt_of I.hok hD
  have len := length_putK kvs k v
  refine wpAny_dictSet_heap (hsz := by rw [← Paired.length rel]; exact z) (show (tupleKind (mixKind X.prog X.w)).room X.A from (by show X.A.units < cLine; omega)) (key_of I.hok hx) dd fun h' dd' hs => q _ ?_
  obtain ⟨ob, es, ep, ho, h2, h3, h4, _, h5⟩ := dd'
  refine d_write I (by rw [hD]; exact True.intro) hs ⟨ob, ho⟩ ⟨by omega, hd, _, (rel.put k hx rv).keeps fun c ys ec => ?_, ob, es, ep, ho, h2, h3, h4, h5⟩
  rw [upd_ne (ne_of ec hD (fun z => nomatch z))]
  exact ec
def tPutT (D : Addr) (Nx : Hp → Prop) (y : V) : VK := fun z H => ∃ (x : Addr) (k : List Key) (kvs : List (List Key × V)), y = .ref x ∧ H x = some (.tup (k.map kV)) ∧ H D = some (.dT kvs) ∧ kvs.length < sizeLine ∧ Nx (upd H D (.dT (putK kvs k z)))
def tDcT (wi : TI) (g : TG) (tt : TT) (tk tv : TE) (vs : List Nat) : TE := fun σ H Q => wi σ H fun J H1 => ∀ D, H1 D = none → ∃ W : Nat → Nat → Hp → Prop, (∃ m, W 0 m (upd H1 D (.dT []))) ∧ ∀ i m H, W i m H →
  (J.stop i H ∧ Q (.ref D) H) ∨ (J.go i H ∧ ∃ Nx : Hp → Prop, (∀ H', Nx H' → ∃ m', m' < m ∧ W (i + 1) m' H') ∧ ∀ x H', J.yld i H x H' → g x (wipe σ vs) H' fun σ2 H2 => wipe σ2 vs = wipe σ vs ∧ tt σ2 H2 fun b H3 => if b = true then tk σ2 H3 fun y H4 => tv σ2 H4 (tPutT D Nx y) else Nx H3)
section
variable {X : Cx}
theorem dct_core {pins : List (Addr × Obj)} {s : Shared} {σ : L2.St} {H : Hp} {Q : VK} {kx vx tg iter : Expr} {ifs : List Expr} {scope : Scope} {own : List (PySem.Str × Nat)} {pos pos' : Pos} {wi : TI} {g : TG} {tt : TT} {tk tv : TE} {use : Option (Value → Sem Unit)} {Qf : Value → Shared → Prop}
    (hc : X.calm = true) (hN : X.N.Nodup) (hu : X.A.units + 3 < cLine) (I : Inv X pins σ H s) (hi : PI X tg iter wi) (ok : BlkOk X.N X.env.scope scope own)
    (hg : ∀ (s : Shared) (H : Hp) (C : Addr) (cl : List (PySem.Str × Addr)) (fp : List Addr), PG (X.blk s H scope (compEnvC scope cl C X.env) fp) tg g) (ht : ∀ (s : Shared) (H : Hp) (C : Addr) (cl : List (PySem.Str × Addr)) (fp : List Addr), PTs (X.blk s H scope (compEnvC scope cl C X.env) fp) ifs tt)
    (hk : ∀ (s : Shared) (H : Hp) (C : Addr) (cl : List (PySem.Str × Addr)) (fp : List Addr), PE (X.blk s H scope (compEnvC scope cl C X.env) fp) kx tk) (he : ∀ (s : Shared) (H : Hp) (C : Addr) (cl : List (PySem.Str × Addr)) (fp : List Addr), PE (X.blk s H scope (compEnvC scope cl C X.env) fp) vx tv) (hs : ∀ x, foldedSetIterable iter X.env x = pure x) (asks : tDcT wi g tt tk tv (own.map (·.2)) σ H Q)
    (out : ∀ D C s' m H', Inv X pins σ H' s' → Q (.ref D) H' → s'.heap.Ns C m → FpOk X pins H' C → compPost (model X.prog X.w) X.A X.xe use Qf (.ref D) C (.ok .next) s') :
    wpAny (model X.prog X.w) X.A (comprehension (.DictComp kx vx [⟨tg, iter, ifs, 0⟩] scope pos) scope X.env pos' newDict false (eval iter X.env) use) Qf X.xe s := by
  have free : ∀ y ∈ scope.names, y.2 = .free → ∃ c, X.env.cells.lookup y.1 = some c := fun y hy e => (ok.free y hy e).elim (fun k => I.ok.has _ (.inl k)) fun k => I.ok.has _ (.inr k)
  refine wpAny_comprehension_free (use := use) rfl hs (closure_ok free) ok.kind (fun y hy e => by rw [ok.uniq y hy, e]) (thn (hi.run pins s σ H _ I asks) fun xv s1 hx => thn hx fun itv s2 h2 => ?_)
  obtain ⟨it, fp, tn, J, H2, e, I2, T, st2, f2, q⟩ := h2
  subst e
  refine wpAny_newObj_type (newEnv_comp ?_)
  generalize hD : s2.heap.objs.size = D
  obtain ⟨W, ⟨m0, w0⟩, turn⟩ := q D (I2.hok.fresh (Nat.le_of_eq hD))
  generalize hs3 : ({ s2 with heap := s2.heap.push { cls := .type "dict", data := .dict #[] } } : Shared) = s3
  have e3 : s3.heap = s2.heap.push { cls := .type "dict", data := .dict #[] } := by rw [← hs3]
  have grown : ∀ b o, s2.heap.get? b = some o → s3.heap.get? b = some o := fun b o e => by rw [e3]; exact Heap.get?_push_of_some _ e
  generalize hH3 : upd H2 D (.dT []) = H3 at w0
  have I3 : Inv X pins σ H3 s3 := by
    rw [← hH3, ← hs3]
    exact I2.laid (t' := s2.toks) (fun b o e => Heap.get?_push_of_some _ e) (Nat.le_of_eq hD) (by rw [← hD]; exact dt_empty s2.heap I2.big)
  have f3 : ∀ b ∈ fp, FpOk X pins H3 b ∧ b < s3.heap.objs.size := fun b hb => by
    obtain ⟨o, eo, _⟩ := T.obj _ _ st2 b hb
    have lt : b < s2.heap.objs.size := Heap.lt_size eo
    have n := (f2 b hb).1
    refine ⟨⟨?_, (f2 b hb).2⟩, by rw [e3, Heap.size_push]; exact Nat.lt_succ_of_lt lt⟩
    rw [← hH3, upd_ne (by rw [← hD]; exact Nat.ne_of_lt lt)]
    exact n
  have n3 : ∀ b ∈ fp, H3 b = none := fun b hb => (f3 b hb).1.1
  have st3 : tn 0 s3.heap := T.keep _ _ _ st2 fun b _ o e => grown b o e
  generalize hcl : cellsFrom (s3.heap.objs.size + 1) scope.names (cloFrom X.env.cells scope.names []) = cl
  have I4 := block_start I3 ok hN f3
  rw [hcl] at I4
  have pg := hg s3 H3 s3.heap.objs.size cl fp; have pt := ht s3 H3 s3.heap.objs.size cl fp; have pk := hk s3 H3 s3.heap.objs.size cl fp; have pe := he s3 H3 s3.heap.objs.size cl fp
  have main : codeAny (model X.prog X.w) X.A (.compStart (.DictComp kx vx [⟨tg, iter, ifs, 0⟩] scope pos) 0 (.ref it) (.ref D) (compEnvC scope cl s3.heap.objs.size X.env)) (compPost (model X.prog X.w) X.A X.xe use Qf (.ref D) s3.heap.objs.size)
      { s3 with heap := pushCells (s3.heap.push { cls := .type "dict", data := .dict #[] }) scope.names } := by
    generalize hce : compEnvC scope cl s3.heap.objs.size X.env = ce at I4 pg pt pk pe ⊢
    have lo : ce.locals = s3.heap.objs.size := by subst hce; rfl
    generalize hs4 : ({ s3 with heap := pushCells (s3.heap.push { cls := .type "dict", data := .dict #[] }) scope.names } : Shared) = s4 at I4 ⊢
    have st4 : tn 0 s4.heap := T.keep _ _ _ st3 fun b _ o e => by rw [← hs4]; exact pushCells_keeps _ _ _ _ (Heap.get?_push_of_some _ e)
    have its : ∀ {τ : L2.St} {Ha : Hp} {sa : Shared}, Inv (X.blk s3 H3 scope ce fp) [] τ Ha sa → (∀ b ∈ fp, Ha b = none) → ∀ b ∈ fp, FpOk (X.blk s3 H3 scope ce fp) [] Ha b := fun {τ Ha sa} J hn b hb =>
      ⟨hn b hb, (J.ok.exf b hb).1, J.ok.exfs b hb, .inl hb, fun x c e => (J.ok.exf b hb).2 x c e, fun p hp => absurd (show p ∈ ([] : List (Addr × Obj)) ++ [] from hp) (by simp)⟩
    refine codeAny_compStart_dict ?_ (T.self X.A 0 _ _ _ st4 ?_)
    all_goals
      refine compLoop_anyD (fun n sa => ∃ i Ha, Inv (X.blk s3 H3 scope ce fp) [] (wipe σ (own.map (·.2))) Ha sa ∧ tn i sa.heap ∧ (∀ b ∈ fp, Ha b = none) ∧ W i n Ha) ?_ m0 ⟨0, H3, I4, st4, n3, w0⟩
      rintro n s5 ⟨i, H5, I5, st5, n5, w5⟩
      rcases turn i n H5 w5 with ⟨stop, qq⟩ | ⟨goes, Nx, hNx, each⟩
      · refine thnF (T.done (X.blk s3 H3 scope ce fp) rfl rfl rfl hc i [] s5 _ H5 (fun _ _ => False) I5 (its I5 n5) st5 stop) fun r s6 ⟨hr, I6⟩ => ?_
        subst hr
        have back : Inv X pins σ H5 s6 := I3.call' (ch := fp) I6.os I6.base I6.hok I6.bare fun b hb => ⟨(f3 b hb).1.2.2.2.1, (f3 b hb).1.2.1, (f3 b hb).1.2.2.2.2.1, (f3 b hb).1.2.2.2.2.2⟩
        have nl : H5 ce.locals = none := I6.free
        obtain ⟨m, ns, _⟩ := I6.loc
        have ns' : s6.heap.Ns ce.locals m := ns
        rw [lo] at ns' nl
        exact out D s3.heap.objs.size s6 m H5 back qq ns' (I3.fpOk (Nat.le_refl _) nl)
      · refine thnF (T.item (X.blk s3 H3 scope ce fp) rfl rfl rfl hc i [] s5 _ H5 (fun _ _ => False) I5 (its I5 n5) st5 goes) fun r s6 ⟨u, hr, h6⟩ => ?_
        subst hr
        refine thnF h6 fun _ s7 ⟨x, H7, I7, r7, y7, st7, n7⟩ => ?_
        refine thnF (pg.run _ s7 _ H7 x u _ (I7.pinned (its I7 n7) (T.obj _ _ st7)) r7 (each x H7 y7)) fun _ s8 ⟨σ8, H8, I8, off, q8⟩ => ?_
        refine thnF (pt.run _ s8 σ8 H8 _ I8 q8) fun b s9 ⟨H9, I9, q9⟩ => ?_
        have ends : ∀ {sa : Shared} {Ha : Hp}, Inv (X.blk s3 H3 scope ce fp) ([] ++ pinsAt fp s7.heap) σ8 Ha sa → Nx Ha → ∃ m, m < n ∧ ∃ i Hb, Inv (X.blk s3 H3 scope ce fp) [] (wipe σ (own.map (·.2))) Hb sa ∧ tn i sa.heap ∧ (∀ b ∈ fp, Hb b = none) ∧ W i m Hb := fun {sa Ha} J nx => by
          obtain ⟨m', lt, w'⟩ := hNx Ha nx
          have held : ∀ b ∈ fp, ∀ o, s7.heap.get? b = some o → sa.heap.get? b = some o ∧ Ha b = none := fun b hb o e => by
            have z := J.pin (b, o) (List.mem_append_right _ (List.mem_append_right _ (mem_pinsAt hb e)))
            exact ⟨z.1, z.2.1⟩
          refine ⟨m', lt, i + 1, Ha, (J.unpinned (pins := [])).weak (by rw [← off, wipe_length]) (fun j v e => ?_), T.keep _ _ _ st7 fun b hb o e => (held b hb o e).1, fun b hb => ?_, w'⟩
          · rw [← off] at e
            exact (wipe_some e).1
          · obtain ⟨o, e, _⟩ := T.obj _ _ st7 b hb
            exact (held b hb o e).2
        cases b with
        | false =>
          simp only [Bool.false_eq_true, if_false] at q9 ⊢
          exact ends I9 q9
        | true =>
          simp only [if_true] at q9 ⊢
          refine thnF (pk.run _ s9 σ8 H9 _ I9 q9) fun z s10 ⟨yk, H10, I10, r10, q10⟩ => ?_
          refine thnF (pe.run _ s10 σ8 H10 _ I10 q10) fun z2 s11 ⟨yv, H11, I11, r11, x, k, kvs, ek, hx, hD11, hz11, nx⟩ => ?_
          subst ek
          cases (show z = Value.ref x from r10)
          exact dictSetT (X := X.blk s3 H3 scope ce fp) hu I11 hD11 hz11 hx r11 fun s12 I12 => ends I12 nx
  subst hcl
  subst hs3
  exact main
theorem pe_dct {kx vx tg iter : Expr} {ifs : List Expr} {scope : Scope} {own : List (PySem.Str × Nat)} {pos : Pos} {wi : TI} {g : TG} {tt : TT} {tk tv : TE} (hc : X.calm = true) (hN : X.N.Nodup) (hu : X.A.units + 3 < cLine) (hi : PI X tg iter wi) (ok : BlkOk X.N X.env.scope scope own)
    (hg : ∀ (s : Shared) (H : Hp) (C : Addr) (cl : List (PySem.Str × Addr)) (fp : List Addr), PG (X.blk s H scope (compEnvC scope cl C X.env) fp) tg g) (ht : ∀ (s : Shared) (H : Hp) (C : Addr) (cl : List (PySem.Str × Addr)) (fp : List Addr), PTs (X.blk s H scope (compEnvC scope cl C X.env) fp) ifs tt)
    (hk : ∀ (s : Shared) (H : Hp) (C : Addr) (cl : List (PySem.Str × Addr)) (fp : List Addr), PE (X.blk s H scope (compEnvC scope cl C X.env) fp) kx tk) (he : ∀ (s : Shared) (H : Hp) (C : Addr) (cl : List (PySem.Str × Addr)) (fp : List Addr), PE (X.blk s H scope (compEnvC scope cl C X.env) fp) vx tv) (hs : ∀ x, foldedSetIterable iter X.env x = pure x := by intro _; rfl) :
    PE X (.DictComp kx vx [⟨tg, iter, ifs, 0⟩] scope pos) (tDcT wi g tt tk tv (own.map (·.2))) := by
  refine ⟨fun pins s σ H Q I h => ?_⟩
  rw [arm_eval_DictComp]
  refine dct_core hc hN hu I hi ok hg ht hk he hs h fun D C s' m H' J q hn ⟨f0, f1, f2, f3, f4, f5⟩ => ⟨m, hn, fun h2 sb => ?_⟩
  exact ⟨.ref D, H', J.turned (t' := s'.toks) (fun b o hb e => (sb.2 b hb).trans e) f0 f1 f3 f4 f5, rfl, q⟩
end
end DL

namespace DL
open PySem PySem.Spec PyProof.Rows L2
/-! ### the same of data -/
section
variable {C : Cq} {X : Cx}
def dcT (p : Pat) (tt : DT) (tk tv : DE) (Γ0 : G) (k : D → Prop) : List D → List (List Key × D) → Prop
  | [], acc => k (.dT acc)
  | d :: r, acc => ∃ Γ', setP p d Γ0 = some Γ' ∧ tt Γ' fun b => if b = true then tk Γ' fun y => ∃ j : List Key, y = .tup (j.map keyD) ∧ tv Γ' fun z => dcT p tt tk tv Γ0 k r (putG acc j z) else dcT p tt tk tv Γ0 k r acc
def dDcT (p : Pat) (ti : DI) (tt : DT) (tk tv : DE) (vs : List Nat) : DE := fun Γ k => ti Γ fun ds => ds.length ≤ 1000000 ∧ dcT p tt tk tv (wipeG Γ vs) k ds []
theorem RelL.mineT {H : Hp} {L : List (V × B)} {a : Addr} {ds : List (List Key × D)} (r1 : RelL C H ((.ref a, .own (.dT ds)) :: L)) : ∃ kvs, H a = some (.dT kvs) ∧ kvs.map (·.1) = ds.map (·.1) ∧ RpA C.K (hid (sh C ((.ref a, .own (.dT ds)) :: L)) H) (kvs.map (·.2)) (ds.map (·.2)) := by
  obtain ⟨a', ea, t⟩ := r1.ok _ List.mem_cons_self
  cases ea
  cases t with
  | dT e k q => exact ⟨_, e, k, q⟩
theorem dct_go {p : Pat} {ti : DI} {tt : DT} {tk tv : DE} {vs : List Nat} (hp : ∀ j ∈ p.slots, j ∈ vs) (σ : L2.St) (H : Hp) (Q : VK) (h : liftE C (dDcT p ti tt tk tv vs) σ H Q) :
    tDcT (liftI C ti) (gP C.K p) (liftT C tt) (liftE C tk) (liftE C tv) vs σ H Q := by
  obtain ⟨Γ, Ts, k, r, h, ans⟩ := h
  refine ⟨Γ, Ts, _, r, h, fun J H1 tmp ds ⟨hlen, hd⟩ w ho r1 D hD => ?_⟩
  obtain ⟨e, pe, r2⟩ := r1.inBlk vs
  have r3 : RS C (wipe σ vs) (upd H1 D (.dT [])) (wipeG Γ vs) ((.ref D, .own (.dT [])) :: tmp :: (Ts ++ e)) := ⟨r2.rel.newOwn1 hD (.dT upd_same rfl .nil), r2.len, r2.cov⟩
  refine ⟨fun i m H => m = ds.length - i ∧ i ≤ ds.length ∧ ∃ acc : List (List Key × DL.D), acc.length ≤ i ∧ RS C (wipe σ vs) H (wipeG Γ vs) ((.ref D, .own (.dT acc)) :: tmp :: (Ts ++ e)) ∧ dcT p tt tk tv (wipeG Γ vs) k (ds.drop i) acc,
    ⟨ds.length, rfl, Nat.zero_le _, [], Nat.le_refl _, r3, hd⟩, ?_⟩
  rintro i m H ⟨rfl, hle, acc, hacc, r4, h4⟩
  have r4' : RelL C H (tmp :: ((.ref D, .own (.dT acc)) :: ((Ts ++ e) ++ pairs (wipe σ vs) (wipeG Γ vs)))) := r4.rel.sub Sub.swap
  by_cases hlt : i < ds.length
  · refine .inr ⟨w.goes i H _ hlt r4', fun H => ∃ acc : List (List Key × DL.D), acc.length ≤ i + 1 ∧ RS C (wipe σ vs) H (wipeG Γ vs) ((.ref D, .own (.dT acc)) :: tmp :: (Ts ++ e)) ∧ dcT p tt tk tv (wipeG Γ vs) k (ds.drop (i + 1)) acc,
      fun H' z => ⟨ds.length - (i + 1), by omega, rfl, hlt, z⟩, fun x H2 y => ?_⟩
    obtain ⟨d, ed, r5⟩ := w.yields i H x H2 _ hlt r4' y
    have edr : ds.drop i = d :: ds.drop (i + 1) := by
      obtain ⟨hl, e'⟩ := List.getElem?_eq_some_iff.mp ed
      rw [← e']
      exact List.drop_eq_getElem_cons hl
    rw [edr] at h4
    obtain ⟨Γ2, e2, h5⟩ := h4
    have r6 : RS C (wipe σ vs) H2 (wipeG Γ vs) ((x, .dat d) :: (.ref D, .own (.dT acc)) :: tmp :: (Ts ++ e)) := ⟨r5.sub (Sub.cons Sub.swap), r4.len, r4.cov⟩
    refine pat_go r6 e2 fun σ3 r7 o1 o2 => ⟨?_, ?_⟩
    · exact (wipe_off (o1.mono hp)).trans rfl
    · have back : ∀ {H : Hp} {Us : List (V × B)}, RS C σ3 H Γ2 Us → RS C (wipe σ vs) H (wipeG Γ vs) Us := fun {H Us} z => by
        have z2 := z.wiped vs
        rw [wipe_off (o1.mono hp), wipeG_off (o2.mono hp)] at z2
        exact z2
      refine ⟨Γ2, _, _, r7, h5, fun b H3 h6 r8 => ?_⟩
      cases b with
      | false => exact ⟨acc, Nat.le_succ_of_le hacc, back r8, h6⟩
      | true =>
        refine ⟨Γ2, _, _, r8, h6, fun y H4 dy ⟨j, h7, h8⟩ r9 => ⟨Γ2, _, _, r9, h8, fun z H5 dz h9 r10 => ?_⟩⟩
        subst h7
        have ty := r10.drop.top1
        obtain ⟨xa, ex, hxa⟩ : ∃ xa, y = V.ref xa ∧ H5 xa = some (.tup (j.map kV)) := by
          cases ty with
          | @tup xa xs _ e q => exact ⟨xa, rfl, by rw [e, keys_of q]⟩
        subst ex
        have rb := (back r10)
        have sw : ∀ (p : V) (u : DL.D) L, sh C ((p, B.dat u) :: L) = sh C L := fun _ _ _ => sh_dat
        have tz := rb.top
        rw [List.cons_append, sw] at tz
        have rq := rb.drop.drop
        obtain ⟨kvs, f1, f2, f3⟩ := rq.rel.mineT
        refine ⟨xa, j, kvs, rfl, hxa, f1, ?_, putG acc j dz, ?_, ⟨rq.rel.write (.dT upd_same (put_keys f2 j z dz) (put_vals f2 f3 j tz)), rq.len, rq.cov⟩, h9⟩
        · have := sizeL
          have := congrArg List.length f2
          rw [List.length_map, List.length_map] at this
          omega
        · have := putG_len j dz acc
          omega
  · have en : ds.drop i = [] := List.drop_eq_nil_of_le (by omega)
    rw [en] at h4
    have ei : i = ds.length := by omega
    refine .inl ⟨by rw [ei]; exact w.stops H _ r4', ans _ _ _ h4 ?_⟩
    have f := r4.rel.freeze
    refine ⟨f.sub ?_, r1.len, r1.cov⟩
    refine Sub.cons ?_
    refine ⟨[tmp], ?_⟩
    have q : ((Ts ++ e) ++ pairs (wipe σ vs) (wipeG Γ vs)).Perm (Ts ++ pairs σ Γ) := by
      rw [List.append_assoc]
      exact (pe.symm).append_left Ts
    exact (q.cons tmp).trans (List.perm_append_singleton tmp _).symm
theorem ed_dcT {p : Pat} {kx vx tg iter : Expr} {ifs : List Expr} {scope : Scope} {own : List (Str × Nat)} {pos : Pos} {ti : DI} {tt : DT} {tk tv : DE} (hc : X.calm = true) (hN : X.N.Nodup) (hu : X.A.units + 3 < cLine) (hi : IDd C X tg iter ti) (ok : BlkOk X.N X.env.scope scope own)
    (hg : ∀ (s : Shared) (H : Hp) (A : Addr) (cl : List (Str × Addr)) (fp : List Addr), PG (X.blk s H scope (compEnvC scope cl A X.env) fp) tg (gP C.K p)) (ht : ∀ (s : Shared) (H : Hp) (A : Addr) (cl : List (Str × Addr)) (fp : List Addr), TsD C (X.blk s H scope (compEnvC scope cl A X.env) fp) ifs tt)
    (hk : ∀ (s : Shared) (H : Hp) (A : Addr) (cl : List (Str × Addr)) (fp : List Addr), ED C (X.blk s H scope (compEnvC scope cl A X.env) fp) kx tk)
    (he : ∀ (s : Shared) (H : Hp) (A : Addr) (cl : List (Str × Addr)) (fp : List Addr), ED C (X.blk s H scope (compEnvC scope cl A X.env) fp) vx tv) (hp : p.slots.all (fun j => (own.map (·.2)).contains j) = true := by rfl) (hs : ∀ x, foldedSetIterable iter X.env x = pure x := by intro _; rfl) :
    ED C X (.DictComp kx vx [⟨tg, iter, ifs, 0⟩] scope pos) (dDcT p ti tt tk tv (own.map (·.2))) :=
  ⟨(pe_dct hc hN hu hi.pi ok hg (fun a b c d e => (ht a b c d e).pts) (fun a b c d e => (hk a b c d e).pe) (fun a b c d e => (he a b c d e).pe) hs).weak (dct_go fun j hj => by simpa using List.all_eq_true.mp hp j hj)⟩
theorem dct_map {p : Pat} {tk tv : DE} {Γ0 : G} {k : D → Prop} (f : D → List Key) (g : D → D) : ∀ {ds : List D} {acc : List (List Key × D)},
    (∀ d ∈ ds, ∀ kk : List Key → D → Prop, kk (f d) (g d) → ∃ Γ', setP p d Γ0 = some Γ' ∧ tk Γ' fun y => ∃ j : List Key, y = .tup (j.map keyD) ∧ tv Γ' fun z => kk j z) →
    k (.dT (ds.foldl (fun acc d => putG acc (f d) (g d)) acc)) → dcT p dYes tk tv Γ0 k ds acc
  | [], _, _, hk => hk
  | d :: ds, acc, hb, hk => by
    obtain ⟨Γ', e, h⟩ := hb d List.mem_cons_self (fun j z => dcT p dYes tk tv Γ0 k ds (putG acc j z)) (dct_map f g (fun e he => hb e (List.mem_cons_of_mem _ he)) hk)
    exact ⟨Γ', e, h⟩
end
theorem putG_app {κ : Type} [DecidableEq κ] {kds : List (κ × D)} {k : κ} {d : D} (h : k ∉ kds.map (·.1)) : putG kds k d = kds ++ [(k, d)] := by
  unfold putG
  rw [if_neg]
  intro z
  obtain ⟨p, hp, e⟩ := List.any_eq_true.mp z
  exact h (List.mem_map.mpr ⟨p, hp, of_decide_eq_true e⟩)
/-- keys that all differ stand in their order -/
theorem fold_put {κ : Type} [DecidableEq κ] (f : D → κ) (g : D → D) : ∀ (ds : List D) (acc : List (κ × D)), (acc.map (·.1) ++ ds.map f).Nodup → ds.foldl (fun acc d => putG acc (f d) (g d)) acc = acc ++ ds.map fun d => (f d, g d)
  | [], acc, _ => by simp
  | d :: ds, acc, nd => by
    have no : f d ∉ acc.map (·.1) := fun z => (List.nodup_append.mp nd).2.2 _ z _ List.mem_cons_self rfl
    rw [List.foldl_cons, putG_app no, fold_put f g ds _ (by simpa using nd), List.append_assoc]
    rfl
theorem hu8 {A : Around} {k : Nat} (r : Room k A) : A.units + 8 < cLine := by have := hu64 r; omega
end DL

namespace DL
open PySem PySem.Spec PyProof.Rows L2
/-! ### dicts with tuple keys as data: d.get(k), k in d, d[k] -/
theorem rd_dT {K : PySem.W.Frag} {H : Hp} {v : V} {kds : List (List Key × D)} (r : Rp K H v (.dT kds)) : ∃ a kvs, v = .ref a ∧ Rd H a (.dT kvs) ∧ kvs.map (·.1) = kds.map (·.1) ∧ RpA K H (kvs.map (·.2)) (kds.map (·.2)) := by
  cases r with
  | dT e k q => exact ⟨_, _, rfl, e, k, q⟩
theorem key_at {K : PySem.W.Frag} {H : Hp} {v : V} {j : List Key} (r : Rp K H v (.tup (j.map keyD))) : ∃ a, v = .ref a ∧ H a = some (.tup (j.map kV)) := by
  cases r with
  | @tup a xs _ e q => exact ⟨a, rfl, by rw [e, keys_of q]⟩
section
variable {C : Cq} {X : Cx}
def dGet1T (a b : DE) : DE := fun Γ k => a Γ fun x => ∃ kds, x = .dT kds ∧ b Γ fun y => ∃ j : List Key, y = .tup (j.map keyD) ∧ k ((valG kds j).getD .non)
theorem ed_get1T {o e : Expr} {a b : DE} {ap cp : Pos} (hu : X.A.units + 65 < cLine) (ho : ED C X o a) (he : ED C X e b) (m : M1 X o "get" ap e cp) : ED C X (.Call (.Attribute o "get" ap) [e] [] cp) (dGet1T a b) :=
  ⟨(pe_dget1 (by omega) ho.pe he.pe m).weak fun σ H Q ⟨Γ, Ts, k, r, h, ans⟩ => ⟨Γ, Ts, _, r, h, fun v H1 x ⟨kds, h1, h2⟩ r1 => by
    subst h1
    obtain ⟨d, kvs, rfl, e1, _, _⟩ := rd_dT r1.top1
    refine ⟨d, rfl, .inr ⟨kvs, e1⟩, Γ, _, _, r1, h2, fun w H2 y ⟨j, h3, h4⟩ r2 => ?_⟩
    subst h3
    obtain ⟨xa, rfl, ex⟩ := key_at r2.top1
    obtain ⟨d', kvs', ed, e1', e2', e3'⟩ := rd_dT r2.drop.top
    cases ed
    refine ⟨valV kvs' j, .inr ⟨kvs', j, xa, rd_mono hid_full e1', rfl, ex, rfl⟩, ?_⟩
    have base := r2.drop.drop
    rcases val_rel e2' e3' j with ⟨q1, q2⟩ | ⟨v, d, q1, q2, q3⟩
    · rw [q1]
      rw [q2] at h4
      exact ans _ _ _ h4 (base.push .non)
    · rw [q1]
      rw [q2] at h4
      exact ans _ _ _ h4 (base.push q3)⟩⟩
def dInT (a b : DE) : DE := fun Γ k => a Γ fun y => b Γ fun x => ∃ kds, ∃ j : List Key, x = .dT kds ∧ y = .tup (j.map keyD) ∧ k (.bl (valG kds j).isSome)
theorem inT_go {a b : DE} : ∀ σ H Q, liftE C (dInT a b) σ H Q → tDIn (liftE C a) (liftE C b) σ H Q := fun σ H Q ⟨Γ, Ts, k, r, h, ans⟩ => ⟨Γ, Ts, _, r, h, fun v H1 y h1 r1 => ⟨Γ, _, _, r1, h1, fun w H2 x ⟨kds, j, h2, h3, h4⟩ r2 => by
    subst h2 h3
    obtain ⟨d, kvs, rfl, e1, e2, e3⟩ := rd_dT r2.top1
    obtain ⟨xa, rfl, ex⟩ := key_at r2.drop.top1
    refine ⟨d, valV kvs j, rfl, .inr ⟨kvs, j, xa, e1, rfl, ex, rfl⟩, ?_⟩
    have es : (valV kvs j).isSome = (valG kds j).isSome := by
      rcases val_rel e2 e3 j with ⟨q1, q2⟩ | ⟨v, d, q1, q2, q3⟩ <;> rw [q1, q2] <;> rfl
    rw [es]
    exact ans _ _ _ h4 (r2.drop.drop.bl _)⟩⟩
theorem ed_inT {i o : Expr} {a b : DE} {pos : Pos} (hu : X.A.units + 65 < cLine) (ha : ED C X i a) (hb : ED C X o b) (h1 : behindInMarks .In o = false := by rfl) : ED C X (.Compare i [.In] [o] pos) (dInT a b) :=
  ⟨(L2.pe_cmp (pc_din (by omega) ha.pe hb.pe) h1).weak inT_go⟩
theorem td_inT {i o : Expr} {a b : DE} {pos : Pos} (hu : X.A.units + 65 < cLine) (ha : ED C X i a) (hb : ED C X o b) (h1 : behindInMarks .In o = false := by rfl) : TD C X (.Compare i [.In] [o] pos) (dTest (dInT a b)) :=
  ⟨(L2.pt_cmp (pc_din (by omega) ha.pe hb.pe) h1).weak fun σ H Q ⟨Γ, Ts, k, s, hk, ans⟩ => inT_go σ H _ ⟨Γ, Ts, _, s, hk, fun v H1 d ⟨b, e, hk1⟩ r1 => by
    subst e
    cases r1.top1
    exact ⟨b, rfl, ans b H1 hk1 r1.drop⟩⟩⟩
def dGetT (a b : DE) : DE := fun Γ k => a Γ fun x => b Γ fun y => ∃ kds, ∃ (j : List Key) (d : D), x = .dT kds ∧ y = .tup (j.map keyD) ∧ valG kds j = some d ∧ k d
theorem ed_getT {o i : Expr} {a b : DE} {pos : Pos} (hu : X.A.units + 65 < cLine) (ha : ED C X o a) (hb : ED C X i b) (hs : NoSl i) : ED C X (.Subscript o i pos) (dGetT a b) :=
  ⟨(pe_dget (by omega) ha.pe hb.pe hs).weak fun σ H Q ⟨Γ, Ts, k, r, h, ans⟩ => ⟨Γ, Ts, _, r, h, fun v H1 x h1 r1 => ⟨Γ, _, _, r1, h1, fun w H2 y ⟨kds, j, d, h2, h3, h4, h5⟩ r2 => by
    subst h2 h3
    obtain ⟨xa, rfl, ex⟩ := key_at r2.top1
    obtain ⟨a, kvs, rfl, e1, e2, e3⟩ := rd_dT r2.drop.top
    rcases val_rel e2 e3 j with ⟨q1, q2⟩ | ⟨v, d', q1, q2, q3⟩
    · rw [q2] at h4
      cases h4
    · rw [q2] at h4
      cases h4
      exact ⟨a, v, rfl, .inr ⟨kvs, j, xa, rd_mono hid_full e1, rfl, ex, q1.symm⟩, ans _ _ _ h5 (r2.drop.drop.push q3)⟩⟩⟩⟩
/-! len(d) -/
def fLenT : FB := fun ds k => ∃ kds : List (List Key × D), ds = [.dT kds] ∧ k (.int (kds.length : Nat))
def rLenTR : List V → Hp → VK → Prop := fun xs H Q => ∃ (p : Addr) (kvs : List (List Key × V)), xs = [.ref p] ∧ Rd H p (.dT kvs) ∧ Q (.int ((kvs.length : Nat) : Int)) H
theorem call_len_dTR {X : Cx} : CallR X (.builtin "len") rLenTR := by
  intro pins s σ H xs us Q I r h
  obtain ⟨p, kvs, rfl, hp, q⟩ := h
  obtain ⟨u, rfl, rx⟩ := vals1 r
  obtain rfl : u = .ref p := rx
  obtain ⟨z, hd, ys, rel, dd⟩ := dt_rd I.hok hp
  have l : kvs.length = ys.length := Paired.length rel
  have big : (ys.length : Int) < 2 ^ 63 := by
    have := sizeLine_eq
    omega
  refine PySem.call_len_dictH hd dd big ⟨.int ys.length, H, I.tok _, ⟨_, rfl⟩, ?_⟩
  rw [← l]
  exact q
theorem cc_lenT : CallC C rLenTR fLenT := fun σ H Γ Ts vs ds k Q q ⟨kds, h0, hk⟩ ans => by
  subst h0
  obtain ⟨v, rfl, t⟩ := q.one
  obtain ⟨a, kvs, rfl, e, ek, _⟩ := rd_dT t
  have len : kvs.length = kds.length := by
    have := congrArg List.length ek
    rwa [List.length_map, List.length_map] at this
  refine ⟨a, kvs, rfl, rd_mono hid_full e, ?_⟩
  rw [len]
  exact ans _ _ _ hk (q.1.int _)
end
end DL

namespace DL
open PySem PySem.Spec PyProof.Rows L2
/-! ### a dict that is locked while it is walked -/
def Dct : HO → Prop
  | .dK _ => True
  | .dT _ => True
  | _ => False
theorem Dct.mut {x : HO} (h : Dct x) : Mut (some x) := by
  cases x <;> first | exact True.intro | exact h.elim
theorem Dct.nofrz {x : HO} (h : Dct x) {o : Obj} {u : HO} : x ≠ .frz o u := fun z => by
  rw [z] at h
  exact h
/-- the same, but that dicts may be locked in one and not in the other -/
def Lk (R R' : Hp) : Prop := ∀ b u, R b = some u → R' b = some u ∨ ∃ x, Dct x ∧ (u = x ∨ ∃ o, u = .frz o x) ∧ Rd R' b x
theorem Lk.keep {R R' : Hp} (h : Lk R R') {b : Addr} {u : HO} (n : ¬ Dct u) (n2 : ∀ o x, u ≠ .frz o x) (e : R b = some u) : R' b = some u := by
  rcases h b u e with z | ⟨x, hx, z | ⟨o, z⟩, _⟩
  · exact z
  · rw [← z] at hx
    exact absurd hx n
  · exact absurd z (n2 o x)
theorem Lk.rd {R R' : Hp} (h : Lk R R') {b : Addr} {x : HO} (hx : Dct x) (r : Rd R b x) : Rd R' b x := by
  rcases r with e | ⟨o, e⟩
  · rcases h b x e with z | ⟨y, hy, z | ⟨o, z⟩, r⟩
    · exact .inl z
    · rwa [z]
    · exact absurd z hx.nofrz
  · rcases h b _ e with z | ⟨y, hy, z | ⟨o', z⟩, r⟩
    · exact .inr ⟨o, z⟩
    · exact absurd z.symm hy.nofrz
    · cases z
      exact r
theorem Lk.hid {H H' : Hp} (h : Lk H H') {S : Addr → Prop} : Lk (hid S H) (hid S H') := fun b u e => by
  obtain ⟨n, e⟩ := hid_in e
  rcases h b u e with z | ⟨x, hx, hu, r⟩
  · exact .inl (hid_mk n z)
  · exact .inr ⟨x, hx, hu, r.imp (hid_mk n) fun ⟨o, e⟩ => ⟨o, hid_mk n e⟩⟩
section
variable {K : PySem.W.Frag} {R R' : Hp}
mutual
theorem Rp.lk (h : Lk R R') : ∀ {v : V} {d : D}, Rp K R v d → Rp K R' v d
  | _, _, .non => .non
  | _, _, .bl b => .bl b
  | _, _, .int i => .int i
  | _, _, .str x => .str x
  | _, _, .lst e r => .lst (h.keep (fun z => z) (fun _ _ z => by cases z) e) (RpA.lk h r)
  | _, _, .tup e r => .tup (h.keep (fun z => z) (fun _ _ z => by cases z) e) (RpA.lk h r)
  | _, _, .dK e k r => .dK (h.rd True.intro e) k (RpA.lk h r)
  | _, _, .dT e k r => .dT (h.rd True.intro e) k (RpA.lk h r)
  | _, _, .obj e k r c => .obj (h.keep (fun z => z) (fun _ _ z => by cases z) e) k (RpA.lk h r) c
  | _, _, .slf e k r c => .slf (h.keep (fun z => z) (fun _ _ z => by cases z) e) k (RpA.lk h r) c
  | _, _, .emp e => .emp e
theorem RpA.lk (h : Lk R R') : ∀ {vs : List V} {ds : List D}, RpA K R vs ds → RpA K R' vs ds
  | _, _, .nil => .nil
  | _, _, .cons r t => .cons (Rp.lk h r) (RpA.lk h t)
end
theorem Top.lk {H H' : Hp} {a : Addr} {d : D} (t : Top K H R a d) (ha : ∀ o, H a = Option.some o → H' a = Option.some o) (h : Lk R R') : Top K H' R' a d := by
  cases t with
  | lst e r => exact .lst (ha _ e) (r.lk h)
  | dK e k r => exact .dK (ha _ e) k (r.lk h)
  | dT e k r => exact .dT (ha _ e) k (r.lk h)
  | obj e k r c => exact .obj (ha _ e) k (r.lk h) c
  | slf e k r c => exact .slf (ha _ e) k (r.lk h) c
end
theorem lk_upd {H : Hp} {a : Addr} {x u : HO} (hx : Dct x) (ha : Rd H a x) (hu : u = x ∨ ∃ o, u = .frz o x) : Lk H (upd H a u) := fun b w e => by
  by_cases z : b = a
  · subst z
    refine .inr ⟨x, hx, ?_, ?_⟩
    · rcases ha with ha | ⟨o, ha⟩
      · rw [ha] at e
        exact .inl (Option.some.inj e).symm
      · rw [ha] at e
        exact .inr ⟨o, (Option.some.inj e).symm⟩
    · rcases hu with rfl | ⟨o, rfl⟩
      · exact .inl upd_same
      · exact .inr ⟨o, upd_same⟩
  · exact .inl (by rw [upd_ne z]; exact e)
section
variable {C : Cq} {H H2 : Hp} {L L' : List (V × B)} {a : Addr} {x : HO} {o : Obj}
theorem okB.lk {S : Addr → Prop} {p : V × B} (h : okB C S H p) (lk : Lk H H2) (ho : ∀ a d, p = (.ref a, .own d) → ∀ u, H a = some u → H2 a = some u) : okB C S H2 p := by
  obtain ⟨v, b⟩ := p
  cases b with
  | dat d => exact Rp.lk lk.hid h
  | own d =>
    obtain ⟨a, rfl, t⟩ := h
    exact ⟨a, rfl, t.lk (ho a d rfl) lk.hid⟩
  | bag => exact h
theorem RelL.lock (r : RelL C H L) (hx : Dct x) (ha : H a = some x) (ns : ¬ sh C L a) : RelL ⟨C.K, C.bg, C.bl, C.S0, DL.now L (upd H a (.frz o x))⟩ (upd H a (.frz o x)) L := by
  have other : ∀ b u, b ≠ a → H b = some u → upd H a (.frz o x) b = some u := fun b u z e => by
    rw [upd_ne z]
    exact e
  have nS : ∀ b, C.S0 b → b ≠ a := fun b hb z => ns (.inl (by rw [← z]; exact hb))
  refine ⟨fun p hp => ?_, fun b hb => ⟨(r.own b hb).1, now_in hb, ?_⟩, r.nd, fun b hb => ?_, fun b hb => ⟨(r.bag b hb).1, (r.bag b hb).2.1, ?_⟩, fun b u _ e => ?_⟩
  · refine okB.lk (C := C) (H := H) (r.ok p hp) (lk_upd hx (.inl ha) (.inr ⟨o, rfl⟩)) fun b d e u eu => other b u (fun z => ns (.inr ?_)) eu
    subst e
    rw [← z]
    exact mem_owns hp
  · rw [upd_ne (fun z => ns (.inr (by rw [← z]; exact hb)))]
    exact (r.own b hb).2.2
  · rw [upd_ne (nS b hb)]
    exact r.dom b hb
  · obtain ⟨i0, i1, i2, ns', e1, n, e2, rest⟩ := (r.bag b hb).2.2
    exact ⟨i0, i1, i2, ns', other _ _ (nS _ (r.bag b hb).1) e1, n, other _ _ (nS _ (r.bag b hb).2.1) e2, rest⟩
  · have e' : DL.now L (upd H a (.frz o x)) b = some u := e
    by_cases z : b ∈ owns L
    · rw [now_in z] at e'
      cases e'
    · rwa [now_out z] at e'
/-- what was locked at the entry is so still -/
theorem RelL.held (r : RelL C H L) (hx : Dct x) (e : H a = some (.frz o x)) (ns : ¬ sh C L a) (q : RelL ⟨C.K, C.bg, C.bl, C.S0, DL.now L H⟩ H2 L') : H2 a = some (.frz o x) := by
  refine q.same a _ (fun hb => ns (.inl (r.bag a hb).1)) ?_
  show DL.now L H a = _
  rw [now_out (fun z => ns (.inr z))]
  exact e
theorem RelL.unlock (r : RelL C H L) (hx : Dct x) (ha : H a = some x) (ns : ¬ sh C L a) (q : RelL ⟨C.K, C.bg, C.bl, C.S0, DL.now L (upd H a (.frz o x))⟩ H2 L') : H2 a = some (.frz o x) ∧ RelL C (upd H2 a x) L' := by
  have r1 : RelL ⟨C.K, C.bg, C.bl, C.S0, DL.now L (upd H a (.frz o x))⟩ (upd H a (.frz o x)) L := r.lock hx ha ns
  have h2 : H2 a = some (.frz o x) := by
    refine q.same a _ (fun hb => ns (.inl (r.bag a hb).1)) ?_
    show DL.now L _ a = _
    rw [now_out (fun z => ns (.inr z)), upd_same]
  have nS : ∀ b, C.S0 b → b ≠ a := fun b hb z => ns (.inl (by rw [← z]; exact hb))
  have nO : ∀ b ∈ owns L', b ≠ a := fun b hb z => by
    obtain ⟨d, m⟩ := owns_mem hb
    obtain ⟨c, ec, t⟩ := q.ok _ m
    cases ec
    rw [z] at t
    cases t with
    | lst e _ => rw [h2] at e; cases e
    | dK e _ _ => rw [h2] at e; cases e
    | dT e _ _ => rw [h2] at e; cases e
    | obj e _ _ _ => rw [h2] at e; cases e
    | slf e _ _ _ => rw [h2] at e; cases e
  have other : ∀ b u, b ≠ a → H2 b = some u → upd H2 a x b = some u := fun b u z e => by
    rw [upd_ne z]
    exact e
  have stands : ∀ b u, C.bg ≠ some b → C.H0 b = some u → b ≠ a → DL.now L (upd H a (.frz o x)) b = some u := fun b u hb e z => by
    have n : b ∉ owns L := fun z => by
      have := (r.own b z).2.1
      rw [this] at e
      cases e
    rw [now_out n, upd_ne z]
    exact r.same b u hb e
  refine ⟨h2, fun p hp => ?_, fun b hb => ⟨(q.own b hb).1, ?_, ?_⟩, q.nd, fun b hb => ?_, fun b hb => ⟨(q.bag b hb).1, (q.bag b hb).2.1, ?_⟩, fun b u hb e => ?_⟩
  · refine okB.lk (C := C) (H := H2) (q.ok p hp) (lk_upd hx (.inr ⟨o, h2⟩) (.inl rfl)) fun b d e u eu => other b u (nO b ?_) eu
    subst e
    exact mem_owns hp
  · cases e : C.H0 b with
    | none => rfl
    | some u =>
      by_cases hg : C.bg = some b
      · exact absurd (q.bag b hg).1 (q.own b hb).1
      · have n : DL.now L (upd H a (.frz o x)) b = none := (q.own b hb).2.1
        rw [stands b u hg e (nO b hb)] at n
        cases n
  · rw [upd_ne (nO b hb)]
    exact (q.own b hb).2.2
  · rw [upd_ne (nS b hb)]
    exact q.dom b hb
  · obtain ⟨i0, i1, i2, ns', e1, n, e2, rest⟩ := (q.bag b hb).2.2
    exact ⟨i0, i1, i2, ns', other _ _ (nS _ (q.bag b hb).1) e1, n, other _ _ (nS _ (q.bag b hb).2.1) e2, rest⟩
  · by_cases z : b = a
    · rw [z, upd_same, ← ha, ← z]
      exact r.same b u hb e
    · rw [upd_ne z]
      exact q.same b u hb (stands b u hb e z)
end
section
variable {C : Cq} {H H2 : Hp} {σ σ' : L2.St} {Γ Γ' : G} {Ts Ts' : List (V × B)} {a : Addr} {x : HO} {o : Obj}
/-- what holds behind the lock -/
noncomputable abbrev Cq.at (C : Cq) (L : List (V × B)) (H : Hp) : Cq := ⟨C.K, C.bg, C.bl, C.S0, DL.now L H⟩
theorem RS.lock (r : RS C σ H Γ Ts) (hx : Dct x) (ha : H a = some x) (ns : ¬ sh C (Ts ++ pairs σ Γ) a) : RS (C.at (Ts ++ pairs σ Γ) (upd H a (.frz o x))) σ (upd H a (.frz o x)) Γ Ts := ⟨r.rel.lock hx ha ns, r.len, r.cov⟩
theorem RS.unlock (r : RS C σ H Γ Ts) (hx : Dct x) (ha : H a = some x) (ns : ¬ sh C (Ts ++ pairs σ Γ) a) (q : RS (C.at (Ts ++ pairs σ Γ) (upd H a (.frz o x))) σ' H2 Γ' Ts') : H2 a = some (.frz o x) ∧ RS C σ' (upd H2 a x) Γ' Ts' :=
  ⟨(r.rel.unlock hx ha ns q.rel).1, (r.rel.unlock hx ha ns q.rel).2, q.len, q.cov⟩
end
/-! ### what is found at a place: a name, or a field of one -/
/-- in each heap in which what stands here stands, but for locks, the expression is the thing at a -/
def At (td : TE) (σ : L2.St) (H : Hp) (a : Addr) : Prop := ∀ H2, Lk H H2 → ∀ Q : VK, Q (.ref a) H2 → td σ H2 Q
structure LD (C : Cq) (X : Cx) (e : Expr) (f : DE) : Prop where
  ex : ∃ td, PE X e td ∧ ∀ σ H Γ Ts k, RS C σ H Γ Ts → f Γ k → ∃ d, k d ∧ ((∃ kds, d = .dT kds) ∨ (∃ kds, d = .dK kds) → ∃ a, At td σ H a ∧ Rp C.K (hid (sh C (Ts ++ pairs σ Γ)) H) (.ref a) d)
section
variable {C : Cq} {X : Cx}
theorem ref_of {K : PySem.W.Frag} {H : Hp} {v : V} {d : D} (r : Rp K H v d) (h : (∃ kds, d = .dT kds) ∨ (∃ kds, d = .dK kds)) : ∃ a, v = .ref a := by
  rcases h with ⟨kds, rfl⟩ | ⟨kds, rfl⟩ <;> cases r <;> exact ⟨_, rfl⟩
theorem ld_v (i : Nat) {x : Str} {pos : Pos} (hN : X.N[i]? = some x := by rfl) (hv : Vis X.env.scope x := by first | exact Or.inl rfl | exact Or.inr (Or.inl rfl) | exact Or.inr (Or.inr rfl)) (hd : (x == ("__debug__" : Str)) = false := by decide)
    (hcd : (x == ("__classdict__" : Str)) = false := by decide) : LD C X (.Name x pos) (dV i) := ⟨⟨_, pe_var hN hv hd hcd, fun σ H Γ Ts k r ⟨d, e, hk⟩ => ⟨d, hk, fun hd => by
  obtain ⟨v, e1, m⟩ := r.get e
  have rp : Rp C.K _ v d := r.rel.ok _ m
  obtain ⟨a, rfl⟩ := ref_of rp hd
  exact ⟨a, fun H2 _ Q q => ⟨_, e1, q⟩, rp⟩⟩⟩⟩
end
/-! ### keys -/
def keysT (kds : List (List Key × D)) : List D := kds.map fun p => .tup (p.1.map keyD)
theorem keys_rp {K : PySem.W.Frag} {H : Hp} : ∀ j : List Key, RpA K H (j.map kV) (j.map keyD)
  | [] => .nil
  | .inl i :: r => .cons (.int i) (keys_rp r)
  | .inr x :: r => .cons (.str x) (keys_rp r)
section
variable {C : Cq} {X : Cx} {a : Addr} {o : Obj} {kvs : List (List Key × V)} {kds : List (List Key × D)}
theorem RelL.frzT {H : Hp} {L : List (V × B)} (nb : C.bg ≠ some a) (h0 : C.H0 a = some (.frz o (.dT kvs))) (r : RelL C H L) : H a = some (.frz o (.dT kvs)) := r.same a _ nb h0
theorem rp_dT {K : PySem.W.Frag} {H : Hp} {a : Addr} {kds : List (List Key × D)} (r : Rp K H (.ref a) (.dT kds)) : ∃ kvs, Rd H a (.dT kvs) ∧ kvs.map (·.1) = kds.map (·.1) ∧ RpA K H (kvs.map (·.2)) (kds.map (·.2)) := by
  cases r with
  | dT e k q => exact ⟨_, e, k, q⟩
theorem rd_frz {H : Hp} {S : Addr → Prop} {kvs' : List (List Key × V)} (e : H a = some (.frz o (.dT kvs))) (r : Rd (hid S H) a (.dT kvs')) : kvs' = kvs := by
  rcases r with r | ⟨o', r⟩
  · have := hid_full _ _ r
    rw [e] at this
    cases this
  · have := hid_full _ _ r
    rw [e] at this
    cases this
    rfl
theorem wk_keysT (nb : C.bg ≠ some a) (h0 : C.H0 a = some (.frz o (.dT kvs))) : WkD C (Itkt a o kvs) (.ref a, .dat (.dT kds)) (keysT kds) := by
  have rd : ∀ {H : Hp} {L : List (V × B)}, RelL C H ((V.ref a, B.dat (.dT kds)) :: L) → H a = some (.frz o (.dT kvs)) ∧ kvs.map (·.1) = kds.map (·.1) := fun {H L} r => by
    have e := r.frzT nb h0
    obtain ⟨kvs', e1, e2, _⟩ := rp_dT r.top
    rw [rd_frz e e1] at e2
    exact ⟨e, e2⟩
  have len : kvs.map (·.1) = kds.map (·.1) → (keysT kds).length = kvs.length := fun e => by
    have := congrArg List.length e
    rw [List.length_map, List.length_map] at this
    unfold keysT
    rw [List.length_map, this]
  refine ⟨fun i H L hi r => ?_, fun H L r => ?_, fun i H x H' L hi r y => ?_⟩
  · obtain ⟨e, ek⟩ := rd r
    rw [len ek] at hi
    exact ⟨e, hi⟩
  · obtain ⟨e, ek⟩ := rd r
    exact ⟨e, by rw [len ek]; exact Nat.le_refl _⟩
  · obtain ⟨e, ek⟩ := rd r
    obtain ⟨rfl, k, v, q, hk, rfl, hq⟩ := y
    refine ⟨.tup (k.map keyD), ?_, r.push (.tup (hid_mk (fun z => ?_) hq) (keys_rp k))⟩
    · have e2 : (kds.map (·.1))[i]? = some k := by rw [← ek, List.getElem?_map, hk]; rfl
      rw [List.getElem?_map] at e2
      unfold keysT
      rw [List.getElem?_map]
      cases z : kds[i]? with
      | none => rw [z] at e2; cases e2
      | some p =>
        rw [z] at e2
        cases e2
        rfl
    · have t := r.thing z
      rw [hq] at t
      exact t
end
/-! ### a walk under a lock -/
/-- the walk's rule of the hand layer, and what it finds -/
structure WlkD (C : Cq) (X : Cx) (tg iter : Expr) (t : DI) : Prop where
  ex : ∃ I : TI, PI X tg iter I ∧ ∀ σ H Γ Ts k, RS C σ H Γ Ts → t Γ k → ∃ (a : Addr) (kvs : List (List Key × V)) (kds : List (List Key × D)) (ds : List D) (J : Obj → It), k ds ∧ Rp C.K (hid (sh C (Ts ++ pairs σ Γ)) H) (.ref a) (.dT kds) ∧ Rd H a (.dT kvs) ∧
    ∀ (o : Obj) (H1 : Hp), H1 a = some (.frz o (.dT kvs)) → Lk H H1 → (∀ R : It → Hp → Prop, R (J o) H1 → I σ H1 R) ∧ ∀ C' : Cq, C'.K = C.K → C'.bg ≠ some a → C'.H0 a = some (.frz o (.dT kvs)) → WkD C' (J o) (.ref a, .dat (.dT kds)) ds
def iKT (f : DE) : DI := fun Γ k => f Γ fun d => ∃ kds, d = .dT kds ∧ k (keysT kds)
section
variable {C : Cq} {X : Cx} {tg : Expr}
theorem wd_keys {e : Expr} {f : DE} (h : LD C X e f) : WlkD C X tg e (iKT f) := by
  obtain ⟨td, he, hf⟩ := h
  refine ⟨_, pi_keys he, fun σ H Γ Ts k r h => ?_⟩
  obtain ⟨d, ⟨kds, rfl, hk⟩, hd⟩ := hf σ H Γ Ts _ r h
  obtain ⟨a, at_, rp⟩ := hd (.inl ⟨_, rfl⟩)
  obtain ⟨kvs, e1, _, _⟩ := rp_dT rp
  exact ⟨a, kvs, kds, _, fun o => Itkt a o kvs, hk, rp, rd_mono hid_full e1, fun o H1 h1 lk => ⟨fun R q => at_ H1 lk _ ⟨a, o, rfl, .inr ⟨kvs, h1, q⟩⟩, fun C' _ nb h0 => wk_keysT nb h0⟩⟩
end
theorem rp_out {K : PySem.W.Frag} {S : Addr → Prop} {H : Hp} {a : Addr} {kds : List (List Key × D)} (r : Rp K (hid S H) (.ref a) (.dT kds)) : ¬ S a := by
  obtain ⟨_, e, _, _⟩ := rp_dT r
  obtain ⟨_, e⟩ := rd_some e
  exact (hid_in e).1
/-! tests and expressions, whatever is said of the rest -/
def anyT (K : PySem.W.Frag) (bg : Option Addr) (bl : Addr) (t : DT) : TT := fun σ H Q => ∃ S0 H0, liftT ⟨K, bg, bl, S0, H0⟩ t σ H Q
def anyS (K : PySem.W.Frag) (bg : Option Addr) (bl : Addr) (t : DS) : TS := fun D σ H => ∃ S0 H0, liftS ⟨K, bg, bl, S0, H0⟩ t D σ H
theorem ts_any {X : Cx} {K : PySem.W.Frag} {bg : Option Addr} {bl : Addr} {ifs : List Expr} {t : DT} (h : ∀ (S0 : Addr → Prop) (H0 : Hp), TsD ⟨K, bg, bl, S0, H0⟩ X ifs t) : PTs X ifs (anyT K bg bl t) :=
  ⟨fun pins s σ H Q I ⟨S0, H0, z⟩ => (h S0 H0).pts.run pins s σ H Q I z⟩
theorem ss_any {X : Cx} {K : PySem.W.Frag} {bg : Option Addr} {bl : Addr} {sts : List Stmt} {t : DS} (h : ∀ (S0 : Addr → Prop) (H0 : Hp), SSD ⟨K, bg, bl, S0, H0⟩ X sts t) : PSs X sts (anyS K bg bl t) :=
  ⟨fun pins s σ H D I ⟨S0, H0, z⟩ => (h S0 H0).pss.run pins s σ H D I z⟩
section
variable {C : Cq} {X : Cx}
/-- the turns of a comprehension (lc_go), the body's readings any that the data's serve -/
theorem lc_goJ {p : Pat} {tt : DT} {te : DE} {vs : List Nat} {TT' : TT} {TE' : TE} (hT : ∀ σ H Q, liftT C tt σ H Q → TT' σ H Q) (hE : ∀ σ H Q, liftE C te σ H Q → TE' σ H Q) (hp : ∀ j ∈ p.slots, j ∈ vs) {σ : L2.St} {H1 : Hp} {Γ : G} {Ts : List (V × B)} {k : D → Prop} {Q : VK}
    {J : It} {tmp : V × B} {ds : List D} (w : WkD C J tmp ds) (r1 : RS C σ H1 Γ (tmp :: Ts)) (hd : lcK p tt te (wipeG Γ vs) k ds []) (hlen : ds.length ≤ 1000000) (ans : Ans C σ Γ Ts k Q) : ∀ D, H1 D = none → ∃ W : Nat → Nat → Hp → Prop, (∃ m, W 0 m (upd H1 D (.lst []))) ∧ ∀ i m H, W i m H →
      (J.stop i H ∧ Q (.ref D) H) ∨ (J.go i H ∧ ∃ Nx : Hp → Prop, (∀ H', Nx H' → ∃ m', m' < m ∧ W (i + 1) m' H') ∧ ∀ x H', J.yld i H x H' → gP C.K p x (wipe σ vs) H' fun σ2 H2 => wipe σ2 vs = wipe σ vs ∧ TT' σ2 H2 fun b H3 =>
        if b = true then TE' σ2 H3 fun y H4 => ∃ acc, H4 D = some (.lst acc) ∧ acc.length < sizeLine ∧ Nx (upd H4 D (.lst (acc ++ [y]))) else Nx H3) := by
  intro D hD
  obtain ⟨e, pe, r2⟩ := r1.inBlk vs
  have r3 : RS C (wipe σ vs) (upd H1 D (.lst [])) (wipeG Γ vs) ((.ref D, .own (.lst [])) :: tmp :: (Ts ++ e)) := ⟨r2.rel.newOwn hD .nil, r2.len, r2.cov⟩
  refine ⟨fun i m H => m = ds.length - i ∧ i ≤ ds.length ∧ ∃ acc, acc.length ≤ i ∧ RS C (wipe σ vs) H (wipeG Γ vs) ((.ref D, .own (.lst acc)) :: tmp :: (Ts ++ e)) ∧ lcK p tt te (wipeG Γ vs) k (ds.drop i) acc,
    ⟨ds.length, rfl, Nat.zero_le _, [], Nat.le_refl _, r3, hd⟩, ?_⟩
  rintro i m H ⟨rfl, hle, acc, hacc, r4, h4⟩
  have r4' : RelL C H (tmp :: ((.ref D, .own (.lst acc)) :: ((Ts ++ e) ++ pairs (wipe σ vs) (wipeG Γ vs)))) := r4.rel.sub Sub.swap
  by_cases hlt : i < ds.length
  · refine .inr ⟨w.goes i H _ hlt r4', fun H => ∃ acc, acc.length ≤ i + 1 ∧ RS C (wipe σ vs) H (wipeG Γ vs) ((.ref D, .own (.lst acc)) :: tmp :: (Ts ++ e)) ∧ lcK p tt te (wipeG Γ vs) k (ds.drop (i + 1)) acc,
      fun H' z => ⟨ds.length - (i + 1), by omega, rfl, hlt, z⟩, fun x H2 y => ?_⟩
    obtain ⟨d, ed, r5⟩ := w.yields i H x H2 _ hlt r4' y
    have edr : ds.drop i = d :: ds.drop (i + 1) := by
      obtain ⟨hl, e'⟩ := List.getElem?_eq_some_iff.mp ed
      rw [← e']
      exact List.drop_eq_getElem_cons hl
    rw [edr] at h4
    obtain ⟨Γ2, e2, h5⟩ := h4
    have r6 : RS C (wipe σ vs) H2 (wipeG Γ vs) ((x, .dat d) :: (.ref D, .own (.lst acc)) :: tmp :: (Ts ++ e)) := ⟨r5.sub (Sub.cons Sub.swap), r4.len, r4.cov⟩
    refine pat_go r6 e2 fun σ3 r7 o1 o2 => ⟨?_, hT _ _ _ ?_⟩
    · exact (wipe_off (o1.mono hp)).trans rfl
    · have back : ∀ {H : Hp} {Us : List (V × B)}, RS C σ3 H Γ2 Us → RS C (wipe σ vs) H (wipeG Γ vs) Us := fun {H Us} z => by
        have z2 := z.wiped vs
        rw [wipe_off (o1.mono hp), wipeG_off (o2.mono hp)] at z2
        exact z2
      refine ⟨Γ2, _, _, r7, h5, fun b H3 h6 r8 => ?_⟩
      cases b with
      | false => exact ⟨acc, Nat.le_succ_of_le hacc, back r8, h6⟩
      | true =>
        refine hE _ _ _ ⟨Γ2, _, _, r8, h6, fun y H4 dy h7 r9 => ?_⟩
        obtain ⟨xs, e3, e4, r10⟩ := (back r9).rel.app
        refine ⟨xs, e3, ?_, acc ++ [dy], ?_, ⟨r10, r4.len, r4.cov⟩, h7⟩
        · have := sizeL
          omega
        · rw [List.length_append, List.length_singleton]
          omega
  · have en : ds.drop i = [] := List.drop_eq_nil_of_le (by omega)
    rw [en] at h4
    have ei : i = ds.length := by omega
    refine .inl ⟨by rw [ei]; exact w.stops H _ r4', ans _ _ _ h4 ?_⟩
    have f := r4.rel.freeze
    refine ⟨f.sub ?_, r1.len, r1.cov⟩
    refine Sub.cons ?_
    refine ⟨[tmp], ?_⟩
    have q : ((Ts ++ e) ++ pairs (wipe σ vs) (wipeG Γ vs)).Perm (Ts ++ pairs σ Γ) := by
      rw [List.append_assoc]
      exact (pe.symm).append_left Ts
    exact (q.cons tmp).trans (List.perm_append_singleton tmp _).symm
theorem ed_lcW {p : Pat} {elt tg iter : Expr} {ifs : List Expr} {scope : Scope} {own : List (Str × Nat)} {pos : Pos} {ti : DI} {tt : DT} {te : DE} (hc : X.calm = true) (hN : X.N.Nodup) (hi : WlkD C X tg iter ti) (ok : BlkOk X.N X.env.scope scope own)
    (hg : ∀ (s : Shared) (H : Hp) (A : Addr) (cl : List (Str × Addr)) (fp : List Addr), PG (X.blk s H scope (compEnvC scope cl A X.env) fp) tg (gP C.K p))
    (ht : ∀ (S0 : Addr → Prop) (H0 : Hp) (s : Shared) (H : Hp) (A : Addr) (cl : List (Str × Addr)) (fp : List Addr), TsD ⟨C.K, C.bg, C.bl, S0, H0⟩ (X.blk s H scope (compEnvC scope cl A X.env) fp) ifs tt)
    (he : ∀ (S0 : Addr → Prop) (H0 : Hp) (s : Shared) (H : Hp) (A : Addr) (cl : List (Str × Addr)) (fp : List Addr), ED ⟨C.K, C.bg, C.bl, S0, H0⟩ (X.blk s H scope (compEnvC scope cl A X.env) fp) elt te) (hp : p.slots.all (fun j => (own.map (·.2)).contains j) = true := by rfl) (hs : ∀ x, foldedSetIterable iter X.env x = pure x := by intro _; rfl) :
    ED C X (.ListComp elt [⟨tg, iter, ifs, 0⟩] scope pos) (dLc p ti tt te (own.map (·.2))) := by
  obtain ⟨I0, hI, hw⟩ := hi
  have hp' : ∀ j ∈ p.slots, j ∈ own.map (·.2) := fun j hj => by simpa using List.all_eq_true.mp hp j hj
  have P0 := pe_lc (pos := pos) (tt := anyT C.K C.bg C.bl tt) (te := anyE C.K C.bg C.bl te) hc hN hI ok hg (fun a b c d e => ts_any fun S0 H0 => ht S0 H0 a b c d e) (fun a b c d e => pe_any fun S0 H0 => he S0 H0 a b c d e) hs
  refine ⟨⟨fun pins s σ H Q I ⟨Γ, Ts, k, r, h, ans⟩ => ?_⟩⟩
  obtain ⟨a, kvs, kds, ds, J, ⟨hlen, hd⟩, rp, rd, f⟩ := hw σ H Γ Ts _ r h
  have ns := rp_out rp
  rcases rd with e | ⟨o, e⟩
  · refine (pe_lock P0).run pins s σ H Q I ⟨a, .dT kvs, e, True.intro, fun od => ?_⟩
    have lk : Lk H (upd H a (.frz od (.dT kvs))) := lk_upd (x := .dT kvs) True.intro (.inl e) (.inr ⟨od, rfl⟩)
    obtain ⟨f1, f2⟩ := f od _ upd_same lk
    have r1 := r.lock (o := od) (x := .dT kvs) True.intro e ns
    refine f1 _ (lc_goJ (C := C.at (Ts ++ pairs σ Γ) (upd H a (.frz od (.dT kvs)))) (TT' := anyT C.K C.bg C.bl tt) (TE' := anyE C.K C.bg C.bl te) (Q := fun v H' => H' a = some (.frz od (.dT kvs)) ∧ Q v (upd H' a (.dT kvs))) (fun _ _ _ z => ⟨_, _, z⟩) (fun _ _ _ z => ⟨_, _, z⟩) hp' (f2 _ rfl (fun hb => ns (.inl (r.rel.bag a hb).1)) ?_) (r1.push (Rp.lk lk.hid rp)) hd hlen fun v H' d hk q => ?_)
    · show DL.now _ _ a = _
      rw [now_out (fun z => ns (.inr z)), upd_same]
    · obtain ⟨z1, z2⟩ := r.unlock (x := .dT kvs) True.intro e ns q
      exact ⟨z1, ans v _ d hk z2⟩
  · refine P0.run pins s σ H Q I ?_
    obtain ⟨f1, f2⟩ := f o H e fun b u e => .inl e
    refine f1 _ (lc_goJ (C := C.at (Ts ++ pairs σ Γ) H) (TT' := anyT C.K C.bg C.bl tt) (TE' := anyE C.K C.bg C.bl te) (Q := Q) (fun _ _ _ z => ⟨_, _, z⟩) (fun _ _ _ z => ⟨_, _, z⟩) hp' (f2 _ rfl (fun hb => ns (.inl (r.rel.bag a hb).1)) ?_) (r.now.push rp) hd hlen fun v H' d hk q => ans v H' d hk (r.back q))
    show DL.now _ _ a = _
    rw [now_out (fun z => ns (.inr z))]
    exact e
/-- the turns of a for -/
theorem for_goJ {p : Pat} {tb : DS} {TS' : TS} (hS : ∀ D σ H, liftS C tb D σ H → TS' D σ H) {σ : L2.St} {H1 : Hp} {Γ : G} {Ts : List (V × B)} {O : Out} {D' : Ends} {J : It} {tmp : V × B} {ds : List D} (w : WkD C J tmp ds) (r1 : RS C σ H1 Γ (tmp :: Ts)) (hd : loopK p tb O ds Γ)
    (n : ∀ σ' H' Γ', O.nx Γ' → RS C σ' H' Γ' Ts → D'.nx σ' H') (q : RetOk C O.rt D'.rt) :
    ∃ W : Nat → Nat → L2.St → Hp → Prop, (∃ m, W 0 m σ H1) ∧ ∀ i m σ H, W i m σ H → (J.stop i H ∧ D'.nx σ H) ∨ (J.go i H ∧ ∃ N : L2.St → Hp → Prop, (∀ σ' H', N σ' H' → ∃ m', m' < m ∧ W (i + 1) m' σ' H') ∧ ∀ x H', J.yld i H x H' → gP C.K p x σ H' fun σ2 H2 => TS' { D' with nx := N, ct := N, bk := D'.nx } σ2 H2) := by
  refine ⟨fun i m σ H => m = ds.length - i ∧ i ≤ ds.length ∧ ∃ Γ', RS C σ H Γ' (tmp :: Ts) ∧ loopK p tb O (ds.drop i) Γ', ⟨ds.length, rfl, Nat.zero_le _, Γ, r1, hd⟩, ?_⟩
  rintro i m σ H ⟨rfl, hle, Γ1, r1, h1⟩
  by_cases hlt : i < ds.length
  · refine .inr ⟨w.goes i H _ hlt r1.rel, fun σ H => ∃ Γ', RS C σ H Γ' (tmp :: Ts) ∧ loopK p tb O (ds.drop (i + 1)) Γ', fun σ' H' z => ⟨ds.length - (i + 1), by omega, rfl, hlt, z⟩, fun x H2 y => ?_⟩
    obtain ⟨d, e, r2⟩ := w.yields i H x H2 _ hlt r1.rel y
    have ed : ds.drop i = d :: ds.drop (i + 1) := by
      obtain ⟨hl, e'⟩ := List.getElem?_eq_some_iff.mp e
      rw [← e']
      exact List.drop_eq_getElem_cons hl
    rw [ed] at h1
    obtain ⟨Γ2, e2, h2⟩ := h1
    have r3 : RS C σ H2 Γ1 ((x, .dat d) :: tmp :: Ts) := ⟨r2, r1.len, r1.cov⟩
    refine pat_go r3 e2 fun σ3 r4 _ _ => hS _ _ _ ⟨Γ2, tmp :: Ts, _, r4, h2, fun σ' H' Γ' hk rk => ⟨Γ', rk, hk⟩, q, fun σ' H' Γ' hk rk => n σ' H' Γ' hk rk.drop, fun σ' H' Γ' hk rk => ⟨Γ', rk, hk⟩⟩
  · have e : ds.drop i = [] := List.drop_eq_nil_of_le (by omega)
    rw [e] at h1
    have ei : i = ds.length := by omega
    rw [ei]
    exact .inl ⟨w.stops H _ r1.rel, n σ H Γ1 h1 r1.drop⟩
theorem sd_forW {p : Pat} {tg iter : Expr} {body : List Stmt} {ti : DI} {tb : DS} {pos : Pos} (hp : PassesOwn (model X.prog X.w) X.A X.env X.xe) (hc : X.calm = true) (hi : WlkD C X tg iter ti) (hg : PG X tg (gP C.K p)) (hb : ∀ (S0 : Addr → Prop) (H0 : Hp), SSD ⟨C.K, C.bg, C.bl, S0, H0⟩ X body tb)
    (hs : ∀ x, foldedSetIterable iter X.env x = pure x := by intro _; rfl) : SD C X (.For tg iter body [] pos) (sFor p ti tb) := by
  obtain ⟨I0, hI, hw⟩ := hi
  have P0 := ps_for (tb := anyS C.K C.bg C.bl tb) hp hc hI hg (ss_any hb) hs (pos := pos)
  refine ⟨⟨fun pins s σ H D' I ⟨Γ, Ts, O, r, h, n, q, b, c⟩ => ?_⟩⟩
  obtain ⟨a, kvs, kds, ds, J, hd, rp, rd, f⟩ := hw σ H Γ Ts _ r h
  have ns := rp_out rp
  rcases rd with e | ⟨o, e⟩
  · refine (ps_lock P0).run pins s σ H D' I ⟨a, .dT kvs, e, True.intro, fun od => ?_⟩
    have lk : Lk H (upd H a (.frz od (.dT kvs))) := lk_upd (x := .dT kvs) True.intro (.inl e) (.inr ⟨od, rfl⟩)
    obtain ⟨f1, f2⟩ := f od _ upd_same lk
    have r1 := r.lock (o := od) (x := .dT kvs) True.intro e ns
    refine f1 _ (for_goJ (C := C.at (Ts ++ pairs σ Γ) (upd H a (.frz od (.dT kvs)))) (TS' := anyS C.K C.bg C.bl tb) (fun _ _ _ z => ⟨_, _, z⟩) (f2 _ rfl (fun hb => ns (.inl (r.rel.bag a hb).1)) ?_) (r1.push (Rp.lk lk.hid rp)) hd (fun σ' H' Γ' hk q' => ?_) fun v H' d σ' Γ' hk q' => ?_)
    · show DL.now _ _ a = _
      rw [now_out (fun z => ns (.inr z)), upd_same]
    · obtain ⟨z1, z2⟩ := r.unlock (x := .dT kvs) True.intro e ns q'
      exact ⟨z1, n σ' _ Γ' hk z2⟩
    · obtain ⟨z1, z2⟩ := r.unlock (x := .dT kvs) True.intro e ns q'
      exact ⟨z1, q v _ d σ' Γ' hk z2⟩
  · refine P0.run pins s σ H D' I ?_
    obtain ⟨f1, f2⟩ := f o H e fun b u e => .inl e
    refine f1 _ (for_goJ (C := C.at (Ts ++ pairs σ Γ) H) (TS' := anyS C.K C.bg C.bl tb) (fun _ _ _ z => ⟨_, _, z⟩) (f2 _ rfl (fun hb => ns (.inl (r.rel.bag a hb).1)) ?_) (r.now.push rp) hd (fun σ' H' Γ' hk q' => n σ' H' Γ' hk (r.back q')) fun v H' d σ' Γ' hk q' => q v H' d σ' Γ' hk (r.back q'))
    show DL.now _ _ a = _
    rw [now_out (fun z => ns (.inr z))]
    exact e
end
end DL

namespace DL
open PySem PySem.Spec PyProof.Rows L2
/-! ### for k, v in d.items(), the keys tuples -/
section
variable {X : Cx} {pins : List (Addr × Obj)} {σ : L2.St} {H : Hp} {s : Shared} {d : Addr} {o : Obj}
theorem entT {kvs : List (List Key × V)} (I : Inv X pins σ H s) (h : Rd H d (.dT kvs)) :
    (d == sysModules) = false ∧ ∃ (o : Obj) (es : Array DictEntry) (ep : Nat), s.heap.get? d = some o ∧ o.ExactDict ∧ o.data = .dict es ep ∧ es.size = kvs.length ∧ kvs.length ≤ sizeLine ∧ (∀ o', H d = some (.frz o' (.dT kvs)) → o = o') ∧
      ∀ (i : Nat) (k : List Key) (v : V), kvs[i]? = some (k, v) → ∃ (en : DictEntry) (q : Addr), es[i]? = some en ∧ en.key = .ref q ∧ H q = some (.tup (k.map kV)) ∧ RelV v en.val := by
  obtain ⟨z, hs, xs, pr, o, es, ep, ho, exd, datd, isIt, _⟩ := rd_of I.hok h
  refine ⟨hs, o, es, ep, ho, exd, datd, ?_, z, fun o' e => ?_, fun i k v e => ?_⟩
  · have l1 : es.size = xs.length := size_of_entries isIt
    have l2 : kvs.length = xs.length := Paired.length pr
    omega
  · obtain ⟨q, _⟩ := I.hok d _ e
    rw [ho] at q
    exact Option.some.inj q
  · obtain ⟨b, hb, e1, e2, e3⟩ := L2.paired_get pr e
    have q := entry_at isIt i
    rw [hb] at q
    exact ⟨_, b.2.1, q, rfl, e2, e3⟩
end
def ItiT (d : Addr) (o : Obj) (kvs : List (List Key × V)) : It :=
  ⟨fun i H => H d = some (.frz o (.dT kvs)) ∧ i < kvs.length, fun i H x H' => ∃ (T q : Addr) (k : List Key) (v : V), kvs[i]? = some (k, v) ∧ x = .ref T ∧ H T = none ∧ H q = some (.tup (k.map kV)) ∧ H' = upd H T (.tup [.ref q, v]), fun i H => H d = some (.frz o (.dT kvs)) ∧ kvs.length ≤ i⟩
section
variable {P : Program} {w : World} {K : PySem.W.Frag} {d : Addr} {o : Obj} {es : Array DictEntry} {ep : Nat}
theorem turn_itemsT {kvs : List (List Key × V)} {elts : List Expr} {kk : Nat} {tpos : Pos} (it : Addr) (hod : o.data = .dict es ep) :
    Turn P w K (.Tuple elts kk tpos) (ItiT d o kvs) [it] it (fun i h => ∃ ok ov, IsItemIter h it d i kvs.length ep ok ov) where
  mem := by simp
  obj := fun i h st b hb => by
    have e : b = it := by simpa using hb
    subst e
    obtain ⟨ok, ov, e⟩ := st
    exact ⟨_, e, fun v z => nomatch z⟩
  keep := fun i h h' st k => let ⟨ok, ov, e⟩ := st; ⟨ok, ov, k it (by simp) _ e⟩
  item := by
    intro X hP hw hK hc i pins s σ H E I hf st hg
    subst hP hw hK
    obtain ⟨hd, hi⟩ := hg
    obtain ⟨hs, o', es', ep', getd, exd, datd, szd, _, sameO, entd⟩ := entT I (.inr ⟨o, hd⟩)
    obtain rfl := sameO o hd
    obtain ⟨rfl, rfl⟩ := dict_ep hod datd
    obtain ⟨⟨k, v⟩, kvd⟩ : ∃ p, kvs[i]? = some p := ⟨kvs[i], List.getElem?_eq_getElem hi⟩
    obtain ⟨en, q, end_, hkey, hq, rv⟩ := entd i k v kvd
    have lt_ : i < es'.size := by omega
    have endE : es'[i] = en := by
      rw [Array.getElem?_eq_getElem lt_] at end_
      exact Option.some.inj end_
    obtain ⟨ok, ov, isIt⟩ := st
    rw [← szd] at isIt
    have lti : it < s.heap.objs.size := Heap.lt_size isIt
    refine DT.nextI isIt ⟨o', getd, exd, datd⟩ lt_ fun h' ho tup0 hz stay => ?_
    rw [endE] at ho tup0
    refine ⟨_, rfl, wpAny_letOwnedTupleGo_items (s := { s with heap := h' }) ho fun h'' he' sb => ?_⟩
    have tupE : h''.get? s.heap.objs.size = some { cls := .type "tuple", data := .seq #[en.key, en.val] } := (sb.2 _ (Nat.ne_of_gt lti)).trans tup0
    have new : ObjOk X.prog X.w (upd H s.heap.objs.size (.tup [.ref q, v])) h'' s.heap.objs.size (.tup [.ref q, v]) :=
      ⟨by show 2 ≤ sizeLine; decide, [en.key, en.val], .cons hkey (.cons rv .nil), ⟨_, tupE, rfl, _, rfl⟩⟩
    have J1 : Inv X pins σ (upd H s.heap.objs.size (.tup [.ref q, v])) { s with heap := h'' } :=
      I.turnedNew (t' := s.toks) (ch := [it]) (fun b ob hb e => (sb.2 b (by simpa using hb)).trans (stay b ob (by simpa using hb) e)) hf (Nat.le_refl _) new
    refine ⟨.ref s.heap.objs.size, _, J1, rfl, ⟨_, q, k, v, kvd, rfl, I.hok.fresh (Nat.le_refl _), hq, rfl⟩, ⟨en.key, en.val, ?_⟩, fun b hb => ?_⟩
    · rw [← szd]; exact he'
    · have e : b = it := by simpa using hb
      rw [e, upd_ne (Nat.ne_of_lt lti)]
      exact (hf it (by simp)).1
  done := by
    intro X hP hw hK hc i pins s σ H E I hf st hg
    subst hP hw hK
    obtain ⟨hd, hi⟩ := hg
    obtain ⟨f0, f1, f2, f3, f4, f5⟩ := hf it (by simp)
    obtain ⟨hs, o', es', ep', getd, exd, datd, szd, _, sameO, entd⟩ := entT I (.inr ⟨o, hd⟩)
    obtain rfl := sameO o hd
    obtain ⟨rfl, rfl⟩ := dict_ep hod datd
    obtain ⟨ok, ov, isIt⟩ := st
    rw [← szd] at isIt
    exact DT.endI (I.ok.hd hc) isIt ⟨o', getd, exd, datd⟩ (by omega) fun h' eb => ⟨rfl, I.turned (t' := s.toks) (fun b ob hb e => eb b ob hb e) f0 f1 f3 f4 f5⟩
  self := fun A i s Q E st h => let ⟨_, _, e⟩ := st; PySem.W.kcp_self e h
end
def iItemsT (td : TE) : TI := fun σ H R => td σ H fun x H1 => ∃ d o kvs, x = .ref d ∧ H1 d = some (.frz o (.dT kvs)) ∧ R (ItiT d o kvs) H1
section
variable {X : Cx} {e : Expr} {td : TE} {apos cpos : Pos}
theorem pi_itemsT {elts : List Expr} {kk : Nat} {tpos : Pos} (isIt : PE X e td) (hb0 : attributeBase e "items" X.env (eval e X.env) = eval e X.env := by rfl) (hline : (apos.endLine == cpos.line) = true := by rfl) :
    PI X (.Tuple elts kk tpos) (.Call (.Attribute e "items" apos) [] [] cpos) (iItemsT td) := by
  refine ⟨fun pins s σ H R I h => ?_⟩
  refine wpAny_Call_method (T := "dict") (id := "dict.items") hb0 rfl hline F.plainAttrs_dict F.slot_dict_items F.type_dict_items (thn (isIt.run pins s σ H _ I h) fun u s1 ⟨x, H1, J1, rv0, d, o, kvs, ex, hd, q⟩ => ?_)
  subst ex
  obtain rfl : u = Value.ref d := rv0
  obtain ⟨hs, o', es, ep, getd, exd, datd, szd, _, sameO, entd⟩ := entT J1 (.inr ⟨o, hd⟩)
  obtain rfl := sameO o hd
  have raw : DT.Raw s1.heap d es ep := ⟨o', getd, exd, datd⟩
  refine ⟨raw.typeIs, (fun a e => by cases e; exact ⟨o', getd, exd.2.1⟩), ?_⟩
  have J2 : Inv X pins σ H1 { s1 with heap := s1.heap.push { cls := .type "dict_items", data := .fields #[.ref d] } } := J1.kept (t' := s1.toks) fun b ob q => Heap.get?_push_of_some _ q
  have fin_ : wpAny (model X.prog X.w) X.A (pyIter (.ref s1.heap.objs.size)) (PIE X pins σ (.Tuple elts kk tpos) R) X.xe { s1 with heap := s1.heap.push { cls := .type "dict_items", data := .fields #[.ref d] } } := by
    refine DT.iterI (d := d) ⟨_, Heap.get?_push_size _ rfl, rfl, rfl⟩ (raw.push _) (pi_one (tk := s1.toks) J2 _ (turn_itemsT _ datd) ⟨.none, .none, ?_⟩ q)
    rw [← szd]
    exact Heap.get?_push_size _ rfl
  show wpAny _ _ (callWith cpos (.builtin "dict.items") [.ref d] [] []) _ X.xe s1
  exact method_meetsIn F.slot_dict_items F.entry_dict_items rfl (PySem.evalArgs_none ⟨rfl, raw.typeIs, F.args_dict_items_1 _, _, DT.meetsItems hs, raw, fin_⟩)
end
def itemsT (kds : List (List Key × D)) : List D := kds.map fun p => .tup [.tup (p.1.map keyD), p.2]
section
variable {C : Cq} {X : Cx} {a : Addr} {o : Obj} {kvs : List (List Key × V)} {kds : List (List Key × D)}
theorem rp_at {K : PySem.W.Frag} {H : Hp} {i : Nat} {k : List Key} {v : V} (ek : kvs.map (·.1) = kds.map (·.1)) (rv : RpA K H (kvs.map (·.2)) (kds.map (·.2))) (e : kvs[i]? = some (k, v)) : ∃ d, kds[i]? = some (k, d) ∧ Rp K H v d := by
  have e1 : (kvs.map (·.2))[i]? = some v := by rw [List.getElem?_map, e]; rfl
  obtain ⟨d, e2, r⟩ := rv.get' e1
  have e3 : (kds.map (·.1))[i]? = some k := by rw [← ek, List.getElem?_map, e]; rfl
  rw [List.getElem?_map] at e2 e3
  cases z : kds[i]? with
  | none => rw [z] at e2; cases e2
  | some p =>
    rw [z] at e2 e3
    obtain ⟨p1, p2⟩ := p
    cases e2
    cases e3
    exact ⟨p2, rfl, r⟩
theorem wk_itemsT (nb : C.bg ≠ some a) (h0 : C.H0 a = some (.frz o (.dT kvs))) : WkD C (ItiT a o kvs) (.ref a, .dat (.dT kds)) (itemsT kds) := by
  have rd : ∀ {H : Hp} {L : List (V × B)}, RelL C H ((V.ref a, B.dat (.dT kds)) :: L) → H a = some (.frz o (.dT kvs)) ∧ kvs.map (·.1) = kds.map (·.1) ∧ RpA C.K (hid (sh C L) H) (kvs.map (·.2)) (kds.map (·.2)) := fun {H L} r => by
    have e := r.frzT nb h0
    obtain ⟨kvs', e1, e2, e3⟩ := rp_dT r.top
    rw [rd_frz e e1] at e2 e3
    exact ⟨e, e2, e3⟩
  have len : kvs.map (·.1) = kds.map (·.1) → (itemsT kds).length = kvs.length := fun e => by
    have := congrArg List.length e
    rw [List.length_map, List.length_map] at this
    unfold itemsT
    rw [List.length_map, this]
  refine ⟨fun i H L hi r => ?_, fun H L r => ?_, fun i H x H' L hi r y => ?_⟩
  · obtain ⟨e, ek, _⟩ := rd r
    rw [len ek] at hi
    exact ⟨e, hi⟩
  · obtain ⟨e, ek, _⟩ := rd r
    exact ⟨e, by rw [len ek]; exact Nat.le_refl _⟩
  · obtain ⟨e, ek, ev⟩ := rd r
    obtain ⟨T, q, k, v, stay, rfl, tup0, hq, rfl⟩ := y
    obtain ⟨d, hd, rv⟩ := rp_at ek ev stay
    have nq : ¬ sh C L q := fun z => by
      have t := r.thing (a := q) (by
        have : sh C ((V.ref a, B.dat (.dT kds)) :: L) = sh C L := sh_dat
        rw [this]
        exact z)
      rw [hq] at t
      exact t
    have nT : ¬ sh C ((V.ref a, B.dat (.dT kds)) :: L) T := r.out tup0
    have nT' : ¬ sh C L T := fun z => nT (by
      have : sh C ((V.ref a, B.dat (.dT kds)) :: L) = sh C L := sh_dat
      rw [this]
      exact z)
    refine ⟨.tup [.tup (k.map keyD), d], ?_, (r.grow (upd_keep tup0)).push ?_⟩
    · unfold itemsT
      rw [List.getElem?_map, hd]
      rfl
    · rw [sh_dat]
      have up : ∀ b u, hid (sh C L) H b = some u → hid (sh C L) (upd H T (.tup [.ref q, v])) b = some u := hid_mono (fun _ z => z) fun b u _ e => upd_keep tup0 b u e
      exact .tup (hid_mk nT' upd_same) (.cons (.tup (up _ _ (hid_mk nq hq)) (keys_rp k)) (.cons (rv.mono up) .nil))
end
def iIT (f : DE) : DI := fun Γ k => f Γ fun d => ∃ kds, d = .dT kds ∧ k (itemsT kds)
section
variable {C : Cq} {X : Cx}
theorem wd_items {e : Expr} {f : DE} {elts : List Expr} {kk : Nat} {tpos apos cpos : Pos} (h : LD C X e f) (hb0 : attributeBase e "items" X.env (eval e X.env) = eval e X.env := by rfl) (hline : (apos.endLine == cpos.line) = true := by rfl) :
    WlkD C X (.Tuple elts kk tpos) (.Call (.Attribute e "items" apos) [] [] cpos) (iIT f) := by
  obtain ⟨td, isIt, hf⟩ := h
  refine ⟨_, pi_itemsT isIt hb0 hline, fun σ H Γ Ts k r h => ?_⟩
  obtain ⟨d, ⟨kds, rfl, stay⟩, hd⟩ := hf σ H Γ Ts _ r h
  obtain ⟨a, at_, rp⟩ := hd (.inl ⟨_, rfl⟩)
  obtain ⟨kvs, e1, _, _⟩ := rp_dT rp
  exact ⟨a, kvs, kds, _, fun o => ItiT a o kvs, stay, rp, rd_mono hid_full e1, fun o H1 h1 lk => ⟨fun R q => at_ H1 lk _ ⟨a, o, kvs, rfl, h1, q⟩, fun C' _ nb h0 => wk_itemsT nb h0⟩⟩
end
/-! ### list(d) -/
def fListT : FB := fun ds k => ∃ kds : List (List Key × D), ds = [.dT kds] ∧ k (.lst (keysT kds))
theorem isKeys_rp {C : Cq} {H : Hp} {L : List (V × B)} (r : RelL C H L) : ∀ {kvs : List (List Key × V)} {bs : List Addr} {kds : List (List Key × D)}, IsKeys H kvs bs → kvs.map (·.1) = kds.map (·.1) → RpA C.K (hid (sh C L) H) (bs.map V.ref) (keysT kds)
  | [], _, [], .nil, _ => .nil
  | [], _, _ :: _, _, e => by simp at e
  | _ :: _, _, [], _, e => by simp at e
  | p :: kvs, b :: bs, q :: kds, .cons h t, e => by
    rw [List.map_cons, List.map_cons, List.cons.injEq] at e
    refine .cons (.tup (hid_mk (fun z => ?_) h) ?_) (isKeys_rp r t e.2)
    · have t := r.thing z
      rw [h] at t
      exact t
    · rw [show q.1 = p.1 from e.1.symm]
      exact keys_rp p.1
section
variable {C : Cq} {X : Cx}
theorem cc_listT : CallC C (fun xs H Q => ∃ d kvs, xs = [V.ref d] ∧ Rd H d (.dT kvs) ∧ ∀ p bs, H p = none → IsKeys H kvs bs → Q (.ref p) (upd H p (.lst (bs.map V.ref)))) fListT := fun σ H Γ Ts vs ds k Q q ⟨kds, h0, stay⟩ ans => by
  subst h0
  obtain ⟨v, rfl, t⟩ := q.one
  obtain ⟨a, kvs, rfl, e, ek, _⟩ := rd_dT t
  exact ⟨a, kvs, rfl, rd_mono hid_full e, fun p bs hp hb => ans _ _ _ stay (q.1.newL hp (isKeys_rp q.1.rel hb ek))⟩
end
end DL

namespace DL
open PySem PySem.Spec PyProof.Rows L2
/-! ### objects of own classes as data -/
section
variable {K : PySem.W.Frag} {H : Hp}
theorem lookup_rp : ∀ {kvs : List (Str × V)} {fs : List (Str × D)} {f : Str} {x : D}, kvs.map (·.1) = fs.map (·.1) → RpA K H (kvs.map (·.2)) (fs.map (·.2)) → fs.lookup f = some x → ∃ v, kvs.lookup f = some v ∧ Rp K H v x
  | [], [], _, _, _, _, h => by simp at h
  | [], _ :: _, _, _, e, _, _ => by simp at e
  | _ :: _, [], _, _, e, _, _ => by simp at e
  | (k, v) :: kvs, (g, d) :: fs, f, x, e, r, h => by
    simp only [List.map_cons, List.cons.injEq] at e
    obtain ⟨rfl, e2⟩ := e
    cases r with
    | cons r1 r2 =>
      rw [List.lookup_cons] at h ⊢
      cases z : f == k with
      | true =>
        rw [z] at h
        cases h
        exact ⟨v, rfl, r1⟩
      | false =>
        rw [z] at h
        exact lookup_rp e2 r2 h
theorem lookup_no : ∀ {kvs : List (Str × V)} {fs : List (Str × D)} {f : Str}, kvs.map (·.1) = fs.map (·.1) → fs.lookup f = none → kvs.lookup f = none
  | [], _, _, _, _ => rfl
  | _ :: _, [], _, e, _ => by simp at e
  | (k, v) :: kvs, (g, d) :: fs, f, e, h => by
    simp only [List.map_cons, List.cons.injEq] at e
    obtain ⟨rfl, e2⟩ := e
    rw [List.lookup_cons] at h ⊢
    cases z : f == k with
    | true =>
      rw [z] at h
      cases h
    | false =>
      rw [z] at h
      exact lookup_no e2 h
theorem rd_obj {v : V} {c : Addr} {fs : List (Str × D)} (r : Rp K H v (.obj c fs)) : ∃ a dx kvs, v = .ref a ∧ H a = some (.ins c dx kvs) ∧ kvs.map (·.1) = fs.map (·.1) ∧ RpA K H (kvs.map (·.2)) (fs.map (·.2)) ∧ ClsK K c := by
  cases r with
  | obj e k q cl => exact ⟨_, _, _, rfl, e, k, q, cl⟩
end
section
variable {C : Cq} {X : Cx}
/-! o.f -/
def dFld (c : Addr) (f : Str) (a : DE) : DE := fun Γ k => a Γ fun d => ∃ fs x, d = .obj c fs ∧ fs.lookup f = some x ∧ k x
theorem ed_fld {c : Addr} {f : Str} {e : Expr} {a : DE} {pos : Pos} (hk : C.K = X.K) (hn : NoAttr C.K c f) (he : ED C X e a) (hb : attributeBase e f X.env (eval e X.env) = eval e X.env := by rfl) : ED C X (.Attribute e f pos) (dFld c f a) :=
  ⟨(pe_fld he.pe hb).weak fun σ H Q ⟨Γ, Ts, k, r, h, ans⟩ => ⟨Γ, Ts, _, r, h, fun v H1 d ⟨fs, x, h1, h2, h3⟩ r1 => by
    subst h1
    obtain ⟨o, dx, kvs, rfl, e1, e2, e3, cl⟩ := rd_obj r1.top
    obtain ⟨w, e4, e5⟩ := lookup_rp e2 e3 h2
    rw [← hk]
    exact ⟨o, c, dx, kvs, w, rfl, hid_full _ _ e1, cl.cl, hn, e4, ans _ _ _ h3 (r1.drop.push e5)⟩⟩⟩
theorem ld_fld (i : Nat) {c : Addr} {f : Str} {x : Str} {xp pos : Pos} (hk : C.K = X.K) (hn : NoAttr C.K c f) (hN : X.N[i]? = some x := by rfl) (hv : Vis X.env.scope x := by first | exact Or.inl rfl | exact Or.inr (Or.inl rfl) | exact Or.inr (Or.inr rfl)) (hd : (x == ("__debug__" : Str)) = false := by decide)
    (hcd : (x == ("__classdict__" : Str)) = false := by decide) (hb : attributeBase (.Name x xp) f X.env (eval (.Name x xp) X.env) = eval (.Name x xp) X.env := by rfl) : LD C X (.Attribute (.Name x xp) f pos) (dFld c f (dV i)) :=
  ⟨⟨_, pe_fld (pe_var hN hv hd hcd) hb, fun σ H Γ Ts k r ⟨d, e, fs, y, h1, h2, h3⟩ => ⟨y, h3, fun hd => by
    subst h1
    obtain ⟨v, e1, m⟩ := r.get e
    have rp : Rp C.K (hid (sh C (Ts ++ pairs σ Γ)) H) v (.obj c fs) := r.rel.ok _ m
    obtain ⟨o, dx, kvs, rfl, f1, f2, f3, cl⟩ := rd_obj rp
    obtain ⟨w, e4, e5⟩ := lookup_rp f2 f3 h2
    obtain ⟨a, rfl⟩ := ref_of e5 hd
    refine ⟨a, fun H2 lk Q q => ⟨_, e1, o, c, dx, kvs, _, rfl, lk.keep (fun z => z) (fun _ _ z => by cases z) (hid_full _ _ f1), ?_, ?_, e4, q⟩, e5⟩
    · rw [← hk]
      exact cl.cl
    · rw [← hk]
      exact hn⟩⟩⟩
end
/-! ### methods -/
section
variable {X : Cx} {CX : CXT} {k : Nat} {f c : Addr} {fd : FuncData} {ps : List Str} {sp : Sp} {E : XK} {dvs : List V} {ds : List Value} {m : Str} {o e : Expr} {es : List Expr} {ta : TE} {t : TA} {apos pos : Pos}
theorem pe_methG {pl : Sem Bool} (he : PE X o ta) (cl : Cls X.K c) (hm : Meth X.K c m f) (F : FnG X.prog X.w X.K X.mg X.base CX k f fd ps sp) (hst : Still X.base X.A) (hr : Room k X.A) (hb : Binds X.K fd ps ds) (hd : Vals dvs ds) (hx : Passes CX X E) (ha : PA X (e :: es) t)
    (hs : starEach (e :: es) X.env = (false, eval e X.env) :: starEach es X.env := by rfl) (hpl : (backTo pos (starEach es X.env)).any (·.1) = false := by rfl)
    (ht : eval (.Call (.Attribute o m apos) (e :: es) [] pos) X.env = (do
      let ov ← eval o X.env
      standAt apos.atName
      let (f, first) ← holding [ov] (getMethod ov m pl)
      callWith pos f first (backTo pos (starEach (e :: es) X.env)) (backToKw pos (keywordEach [] X.env))) := by rfl) :
    PE X (.Call (.Attribute o m apos) (e :: es) [] pos) (tMeth c m sp dvs E ta t) := by
  refine ⟨fun pins s σ H Q I h => ?_⟩
  refine PySem.W.methodCall_KW (pl := pl) (thn (he.run pins s σ H _ I h) fun u s1 ⟨x, H1, I1, rx, a, dx, fs, ex, ea, l, q⟩ => ?_) ht
  subst ex
  obtain rfl : u = Value.ref a := rx
  refine getmeth_ok I1 ea cl hm l ?_
  refine PySem.W.callWith_K (first := [.ref a]) (h₀ := X.base) I.ok.mod.kin hm.kp (thn (ha.run pos pins s1 σ H1 _ I1 q) fun us s2 ⟨vs, H2, I2, r, q2⟩ => ⟨I2.kIn, ?_⟩) hs hpl
  exact runG (us := .ref a :: us) (vs := .ref a :: vs) F hst hr hb hd hx I2 (.cons rfl r) q2
theorem pe_meth0G {pl : Sem Bool} (he : PE X o ta) (cl : Cls X.K c) (hm : Meth X.K c m f) (F : FnG X.prog X.w X.K X.mg X.base CX k f fd ps sp) (hst : Still X.base X.A) (hr : Room k X.A) (hb : Binds X.K fd ps ds) (hd : Vals dvs ds) (hx : Passes CX X E)
    (ht : eval (.Call (.Attribute o m apos) [] [] pos) X.env = (do
      let ov ← eval o X.env
      standAt apos.atName
      let (f, first) ← holding [ov] (getMethod ov m pl)
      callWith pos f first (backTo pos (starEach [] X.env)) (backToKw pos (keywordEach [] X.env))) := by rfl) :
    PE X (.Call (.Attribute o m apos) [] [] pos) (tMeth c m sp dvs E ta tNil) := by
  refine ⟨fun pins s σ H Q I h => ?_⟩
  refine PySem.W.methodCall_KW (pl := pl) (thn (he.run pins s σ H _ I h) fun u s1 ⟨x, H1, I1, rx, a, dx, fs, ex, ea, l, q⟩ => ?_) ht
  subst ex
  obtain rfl : u = Value.ref a := rx
  refine getmeth_ok I1 ea cl hm l ?_
  exact PySem.W.callWith_K0 (first := [.ref a]) I1.kIn hm.kp (runG (us := [.ref a]) (vs := [.ref a]) F hst hr hb hd hx I1 (.cons rfl .nil) q)
end
section
variable {C : Cq} {X : Cx} {k : Nat} {f c : Addr} {fd : FuncData} {ps : List Str} {m : Str} {o e : Expr} {es : List Expr} {a : DE} {t : DA} {apos pos : Pos} {pre : List D → Prop} {post : List D → D → Prop}
def dMeth (c : Addr) (m : Str) (pre : List D → Prop) (post : List D → D → Prop) (a : DE) (t : DA) : DE := fun Γ k => a Γ fun d => (∃ fs, d = .obj c fs ∧ fs.lookup m = none) ∧ t Γ fun ds => pre (d :: ds) ∧ ∀ r, post (d :: ds) r → k r
/-- what a method of data is called on -/
theorem meth_go {σ : L2.St} {H2 : Hp} {Γ : G} {Ts : List (V × B)} {κ : D → Prop} {Q : VK} {v : V} {d : D} {vs : List V} {ds : List D} (hp : pre (d :: ds)) (hq : ∀ r, post (d :: ds) r → κ r) (ans : Ans C σ Γ Ts κ Q) (q : AllIn C σ H2 Γ ((v, .dat d) :: Ts) vs ds) : spD C.K pre post (v :: vs) H2 Q E0 := by
  obtain ⟨r2, q2⟩ := q
  have sw : sh C ((v, B.dat d) :: Ts ++ pairs σ Γ) = sh C (Ts ++ pairs σ Γ) := sh_dat
  rw [sw] at q2
  exact ⟨sh C (Ts ++ pairs σ Γ), d :: ds, fun a z => r2.drop.rel.thing z, .cons r2.top q2, hp, fun v' H' d' g hd rv => ans v' H' d' (hq d' hd) ((r2.drop.grow g).push rv)⟩
theorem ed_meth {pl : Sem Bool} (F : FnG X.prog X.w X.K X.mg X.base CX0 k f fd ps (spD C.K pre post)) (hk : C.K = X.K) (hst : Still X.base X.A) (hr : Room k X.A) (hm : Meth X.K c m f) (hb : Binds X.K fd ps []) (ho : ED C X o a) (ha : AD C X (e :: es) t)
    (hs : starEach (e :: es) X.env = (false, eval e X.env) :: starEach es X.env := by rfl) (hpl : (backTo pos (starEach es X.env)).any (·.1) = false := by rfl)
    (ht : eval (.Call (.Attribute o m apos) (e :: es) [] pos) X.env = (do
      let ov ← eval o X.env
      standAt apos.atName
      let (f, first) ← holding [ov] (getMethod ov m pl)
      callWith pos f first (backTo pos (starEach (e :: es) X.env)) (backToKw pos (keywordEach [] X.env))) := by rfl) (cl : ClsK C.K c) :
    ED C X (.Call (.Attribute o m apos) (e :: es) [] pos) (dMeth c m pre post a t) :=
  ⟨(pe_methG (pl := pl) ho.pe (by rw [← hk]; exact cl.cl) hm F hst hr hb .nil (pass0 (X := X)) ha.pa hs hpl ht).weak fun σ H Q ⟨Γ, Ts, κ, r, h, ans⟩ => ⟨Γ, Ts, _, r, h, fun v H1 d ⟨⟨fs, h1, h2⟩, h3⟩ r1 => by
    subst h1
    obtain ⟨b, dx, kvs, rfl, e1, e2, e3, _⟩ := rd_obj r1.top
    refine ⟨b, dx, kvs, rfl, hid_full _ _ e1, lookup_no e2 h2, Γ, _, _, r1, h3, fun vs H2 ds ⟨hp, hq⟩ q => ?_⟩
    show spD C.K pre post (V.ref b :: (vs ++ [])) H2 Q E0
    rw [List.append_nil]
    exact meth_go hp hq ans q⟩⟩
theorem ed_meth0 {pl : Sem Bool} (F : FnG X.prog X.w X.K X.mg X.base CX0 k f fd ps (spD C.K pre post)) (hk : C.K = X.K) (hst : Still X.base X.A) (hr : Room k X.A) (hm : Meth X.K c m f) (hb : Binds X.K fd ps []) (ho : ED C X o a)
    (ht : eval (.Call (.Attribute o m apos) [] [] pos) X.env = (do
      let ov ← eval o X.env
      standAt apos.atName
      let (f, first) ← holding [ov] (getMethod ov m pl)
      callWith pos f first (backTo pos (starEach [] X.env)) (backToKw pos (keywordEach [] X.env))) := by rfl) (cl : ClsK C.K c) :
    ED C X (.Call (.Attribute o m apos) [] [] pos) (dMeth c m pre post a dNil) :=
  ⟨(pe_meth0G (pl := pl) ho.pe (by rw [← hk]; exact cl.cl) hm F hst hr hb .nil (pass0 (X := X)) ht).weak fun σ H Q ⟨Γ, Ts, κ, r, h, ans⟩ => ⟨Γ, Ts, _, r, h, fun v H1 d ⟨⟨fs, h1, h2⟩, hp, hq⟩ r1 => by
    subst h1
    obtain ⟨b, dx, kvs, rfl, e1, e2, e3, _⟩ := rd_obj r1.top
    exact ⟨b, dx, kvs, rfl, hid_full _ _ e1, lookup_no e2 h2, meth_go hp hq ans ⟨r1, .nil⟩⟩⟩⟩
end
/-! ### what an own __init__ promises: self, made just now, gets the fields that post names -/
def spI (K : PySem.W.Frag) (c : Addr) (pre : List D → Prop) (post : List D → List (Str × D) → Prop) : Sp := fun vs H Q _ => ∃ (x dx : Addr) (ws : List V) (S : Addr → Prop) (ds : List D), vs = .ref x :: ws ∧ H x = some (.ins c dx []) ∧ ClsK K c ∧ (∀ a, S a → Thing (H a)) ∧ ¬ S x ∧
  RpA K (hid (fun a => S a ∨ a = x) H) ws ds ∧ pre ds ∧ ∀ H' dx' kvs fs, (∀ a o, a ≠ x → H a = some o → H' a = some o) → H' x = some (.ins c dx' kvs) → kvs.map (·.1) = fs.map (·.1) → RpA K (hid (fun a => S a ∨ a = x) H') (kvs.map (·.2)) (fs.map (·.2)) → post ds fs → Q .non H'
section
variable {X : Cx} {CX : CXT} {k : Nat} {f c : Addr} {fd : FuncData} {ps : List Str} {sp : Sp} {E : XK} {dvs : List V} {ds : List Value} {x : Str} {e : Expr} {es : List Expr} {t : TA} {p pos : Pos}
theorem run_makeG {pins : List (Addr × Obj)} {σ : L2.St} {H : Hp} {s : Shared} {Q : VK} {us : List Value} {vs : List V} (M : Mk X.K c f) (F : FnG X.prog X.w X.K X.mg X.base CX k f fd ps sp) (hst : Still X.base X.A) (hr : Room (k + 1) X.A) (hb : Binds X.K fd ps ds) (hd : Vals dvs ds)
    (hx : Passes CX X E) (I : Inv X pins σ H s) (r : Vals vs us)
    (h : ∀ x dx, H x = none → H dx = none → dx ≠ x → sp (.ref x :: (vs ++ dvs)) (upd (upd H dx (.own x)) x (.ins c dx [])) (fun v H2 => v = .non ∧ Q (.ref x) H2) E) :
    wpAny (model X.prog X.w) X.A (call (.ref c) us) (EP X pins σ Q) X.xe s := by
  have hq := h (s.heap.objs.size + 1) s.heap.objs.size (I.hok.fresh (Nat.le_succ _)) (I.hok.fresh (Nat.le_refl _)) (Nat.ne_of_lt (Nat.lt_succ_self _))
  have I2 := Inv.made (C := c) I
  have r2 : Vals (V.ref (s.heap.objs.size + 1) :: (vs ++ dvs)) (Value.ref (s.heap.objs.size + 1) :: (us ++ ds)) := .cons rfl (r.append hd)
  have hl : (Value.ref (s.heap.objs.size + 1) :: us ++ ds).length = ps.length := by
    have e := r2.length
    rw [F.len _ _ _ _ hq] at e
    exact e.symm
  refine wpAny_call (make_map (f := f) I.kIn M.makes M.init (beq_iff_eq.mp M.fn) (codeAny_mono (F.run _ X.stack _ _ ⟨Value.ref (s.heap.objs.size + 1) :: us, []⟩ (Value.ref (s.heap.objs.size + 1) :: (us ++ ds)) _ _ E hst (hr.make c us [])
    (I2.env0.make c us []) (hb _ (Value.ref (s.heap.objs.size + 1) :: us) I2.kIn hl) r2 hq) fun r s' hq' => ?_))
  cases r with
  | error e => exact hx pins σ _ _ e s' I2 hq'
  | ok fl =>
    cases fl with
    | ret u =>
      obtain ⟨v, H', I3, rv, ev, q3⟩ := I2.after hq'
      subst ev
      exact ⟨rv, ⟨V.ref (s.heap.objs.size + 1), H', I3, rfl, q3⟩⟩
    | next => exact False.elim hq'
    | brk => exact False.elim hq'
    | cont => exact False.elim hq'
theorem pe_makeG (M : Mk X.K c f) (F : FnG X.prog X.w X.K X.mg X.base CX k f fd ps sp) (hst : Still X.base X.A) (hr : Room (k + 1) X.A) (hg : Gl X x) (hm : X.mg x = some (.ref c)) (hb : Binds X.K fd ps ds) (hd : Vals dvs ds) (hx : Passes CX X E)
    (ha : PA X (e :: es) t) (hdb : (x == ("__debug__" : Str)) = false := by decide) (he : starEach (e :: es) X.env = (false, eval e X.env) :: starEach es X.env := by rfl) (hpl : (backTo pos (starEach es X.env)).any (·.1) = false := by rfl) :
    PE X (.Call (.Name x p) (e :: es) [] pos) (tMake c sp dvs E t) := by
  refine ⟨fun pins s σ H Q I h => ?_⟩
  refine wpAny_Call_Name_kw (ld_glob I hg hm ?_ hdb)
  refine PySem.W.callWith_K (h₀ := X.base) I.ok.mod.kin M.kp (thn (ha.run pos pins s σ H _ I h) fun us s1 ⟨vs, H1, I1, r, q⟩ => ⟨I1.kIn, ?_⟩) he hpl
  exact run_makeG M F hst hr hb hd hx I1 r q
theorem pe_make0G (M : Mk X.K c f) (F : FnG X.prog X.w X.K X.mg X.base CX k f fd ps sp) (hst : Still X.base X.A) (hr : Room (k + 1) X.A) (hg : Gl X x) (hm : X.mg x = some (.ref c)) (hb : Binds X.K fd ps ds) (hd : Vals dvs ds) (hx : Passes CX X E)
    (hdb : (x == ("__debug__" : Str)) = false := by decide) : PE X (.Call (.Name x p) [] [] pos) (tMake c sp dvs E tNil) := by
  refine ⟨fun pins s σ H Q I h => ?_⟩
  refine wpAny_Call_Name_kw (ld_glob I hg hm ?_ hdb)
  exact PySem.W.callWith_K0 I.kIn M.kp (run_makeG (us := []) M F hst hr hb hd hx I .nil h)
end
section
variable {C : Cq} {X : Cx} {k : Nat} {f c : Addr} {fd : FuncData} {ps : List Str} {x : Str} {e : Expr} {es : List Expr} {t : DA} {p pos : Pos} {pre : List D → Prop} {post : List D → List (Str × D) → Prop}
def dMake (c : Addr) (pre : List D → Prop) (post : List D → List (Str × D) → Prop) (dd : List D) (t : DA) : DE := fun Γ k => t Γ fun ds => pre (ds ++ dd) ∧ ∀ fs, post (ds ++ dd) fs → k (.obj c fs)
theorem make_go {σ : L2.St} {H2 : Hp} {Γ : G} {Ts : List (V × B)} {κ : D → Prop} {Q : VK} {vs : List V} {ds : List D} (cl : ClsK C.K c) (hp : pre ds) (hq : ∀ fs, post ds fs → κ (.obj c fs)) (ans : Ans C σ Γ Ts κ Q) (q : AllIn C σ H2 Γ Ts vs ds) (x dx : Addr) (hx : H2 x = none) (hdx : H2 dx = none) (ne : dx ≠ x) :
    spI C.K c pre post (.ref x :: vs) (upd (upd H2 dx (.own x)) x (.ins c dx [])) (fun v H3 => v = .non ∧ Q (.ref x) H3) E0 := by
  obtain ⟨r2, q2⟩ := q
  have keep : ∀ a o, H2 a = some o → upd (upd H2 dx (.own x)) x (.ins c dx []) a = some o := fun a o e => by
    rw [upd_ne (ne_of_none e hx), upd_ne (ne_of_none e hdx)]
    exact e
  have nx : ¬ sh C (Ts ++ pairs σ Γ) x := r2.out hx
  refine ⟨x, dx, vs, sh C (Ts ++ pairs σ Γ), ds, rfl, upd_same, cl, fun a z => ?_, nx, q2.mono fun a o e => ?_, hp, fun H' dx' kvs fs g e1 e2 e3 e4 => ⟨rfl, ?_⟩⟩
  · have t := r2.rel.thing z
    cases e : H2 a with
    | none => rw [e] at t; exact t.elim
    | some o =>
      rw [keep a o e]
      rw [e] at t
      exact t
  · obtain ⟨n, e⟩ := hid_in e
    exact hid_mk (fun z => z.elim n fun z => by rw [z, hx] at e; cases e) (keep a o e)
  · have gr : ∀ a o, H2 a = some o → H' a = some o := fun a o e => g a o (ne_of_none e hx) (keep a o e)
    refine ans _ H' _ (hq fs e4) ((r2.grow gr).push ?_)
    exact .obj (hid_mk nx e1) e2 (e3.mono (hid_mono (fun _ z => .inl z) fun _ _ _ e => e)) cl
theorem ed_make (M : Mk X.K c f) (F : FnG X.prog X.w X.K X.mg X.base CX0 k f fd ps (spI C.K c pre post)) (hst : Still X.base X.A) (hr : Room (k + 1) X.A) (hg : Gl X x) (hm : X.mg x = some (.ref c)) (hb : Binds X.K fd ps []) (ha : AD C X (e :: es) t) (cl : ClsK C.K c)
    (hdb : (x == ("__debug__" : Str)) = false := by decide) (he : starEach (e :: es) X.env = (false, eval e X.env) :: starEach es X.env := by rfl) (hpl : (backTo pos (starEach es X.env)).any (·.1) = false := by rfl) :
    ED C X (.Call (.Name x p) (e :: es) [] pos) (dMake c pre post [] t) :=
  ⟨(pe_makeG M F hst hr hg hm hb .nil (pass0 (X := X)) ha.pa hdb he hpl).weak fun σ H Q ⟨Γ, Ts, κ, r, h, ans⟩ => ⟨Γ, Ts, _, r, h, fun vs H1 ds ⟨hp, hq⟩ q x dx hx hdx ne => by
    rw [List.append_nil] at hp hq
    rw [List.append_nil]
    exact make_go cl hp hq ans q x dx hx hdx ne⟩⟩
end
/-! self.f = e -/
def putD (f : Str) (v : D) : List (Str × D) → List (Str × D)
  | [] => [(f, v)]
  | (g, x) :: r => if g = f then (g, v) :: r else (g, x) :: putD f v r
theorem putF_rp {K : PySem.W.Frag} {H : Hp} {f : Str} {v : V} {d : D} (r : Rp K H v d) : ∀ {kvs : List (Str × V)} {fs : List (Str × D)}, kvs.map (·.1) = fs.map (·.1) → RpA K H (kvs.map (·.2)) (fs.map (·.2)) →
    (putF f v kvs).map (·.1) = (putD f d fs).map (·.1) ∧ RpA K H ((putF f v kvs).map (·.2)) ((putD f d fs).map (·.2))
  | [], [], _, _ => ⟨rfl, .cons r .nil⟩
  | [], _ :: _, e, _ => by simp at e
  | _ :: _, [], e, _ => by simp at e
  | (k, w) :: kvs, (g, x) :: fs, e, q => by
    simp only [List.map_cons, List.cons.injEq] at e
    obtain ⟨rfl, e2⟩ := e
    cases q with
    | cons q1 q2 =>
      obtain ⟨i1, i2⟩ := putF_rp r e2 q2
      unfold putF putD
      by_cases z : k = f
      · rw [if_pos z, if_pos z]
        exact ⟨by simp [e2], .cons r q2⟩
      · rw [if_neg z, if_neg z]
        exact ⟨by simp [i1], .cons q1 i2⟩
section
variable {C : Cq} {X : Cx}
def sFldI (i : Nat) (c : Addr) (f : Str) (a : DE) : DS := fun O Γ => a Γ fun d => ∃ x fs, Γ[i]? = some (some (.own (.slf x c fs))) ∧ fs.length < 900 ∧ O.nx (Γ.set i (some (.own (.slf x c (putD f d fs)))))
theorem sd_fldI (i : Nat) {c : Addr} {f y : Str} {e : Expr} {a : DE} {yp ap pos : Pos} (hk : C.K = X.K) (hn : NoAttr C.K c f) (he : ED C X e a) (hN : X.N[i]? = some y := by rfl) (hv : Vis X.env.scope y := by first | exact Or.inl rfl | exact Or.inr (Or.inl rfl) | exact Or.inr (Or.inr rfl)) (hd : (y == ("__debug__" : Str)) = false := by decide)
    (hcd : (y == ("__classdict__" : Str)) = false := by decide) (hs : swapsWith e (some (.Attribute (.Name y yp) f ap)) pos.line X.env = pure false := by rfl) : SD C X (.Assign [.Attribute (.Name y yp) f ap] e pos) (sFldI i c f a) :=
  ⟨(ps_fld (pe_var hN hv hd hcd) he.pe hs).weak fun D' σ H ⟨Γ, Ts, O, r, h, n, _⟩ => ⟨Γ, Ts, _, r, h, fun v H1 d ⟨x, fs, e1, hl, hn'⟩ r1 => by
    obtain ⟨b, f1, t1, w, _⟩ := r1.drop.own e1
    cases t1 with
    | @slf C dx kvs kds g1 g2 g3 g4 =>
      refine ⟨_, f1, _, c, dx, kvs, rfl, g1, ?_, ?_, ?_, n σ _ _ hn' (w _ _ ?_)⟩
      · rw [← hk]
        exact g4.cl
      · rw [← hk]
        exact hn
      · have := congrArg List.length g2
        rw [List.length_map, List.length_map] at this
        omega
      · obtain ⟨p1, p2⟩ := putF_rp (f := f) r1.top g2 g3
        exact .slf upd_same p1 p2 g4⟩⟩
end
/-! ### the body of an __init__ -/
def gI (x c : Addr) (N : List Str) (ds : List D) : G := some (.own (.slf x c [])) :: (ds.map (fun d => some (B.dat d)) ++ List.replicate (N.length - (ds.length + 1)) none)
/-- a def of the text, defaults or not -/
structure FunX (K : PySem.W.Frag) (x qual : Str) (st : Stmt) (f : Addr) (fd : FuncData) : Prop where
  ex : ∃ (oc : Value) (od : Option Addr) (dV kV doc pm : Value) (an : Option Addr) (cdv ct : Value) (osl : Array (Option Value)), fd = PySem.W.fnOf x qual (defArgs st) (defBody st) (defScope st) dV kV doc pm an cdv ct ∧ K.lookup f = some ⟨oc, od, .func fd, osl⟩ ∧ PySem.W.codeIn K cdv qual = true
theorem funX {K : PySem.W.Frag} {x qual : Str} {st : Stmt} {f : Addr} {fd : FuncData} (F : Fun K x qual st f fd) : FunX K x qual st f fd := by
  obtain ⟨oc, od, kV, doc, pm, an, cdv, ct, osl, e, l, h⟩ := F.ex
  exact ⟨oc, od, _, kV, doc, pm, an, cdv, ct, osl, e, l, h⟩
section
variable {P : Program} {w : World} {K : PySem.W.Frag} {mg : Str → Option Value} {base : Heap} {k : Nat} {f c : Addr} {fd : FuncData} {ps : List Str} {x qual : Str} {st : Stmt} {N : List Str} {pre : List D → Prop} {post : List D → List (Str × D) → Prop}
theorem RS.startI {S : Addr → Prop} {H : Hp} {vs : List V} {ds : List D} {x dx : Addr} (ex : H x = some (.ins c dx [])) (cl : ClsK K c) (hd : ∀ a, S a → Thing (H a)) (nx : ¬ S x) (r : RpA K (hid (fun a => S a ∨ a = x) H) vs ds) (hl : vs.length + 1 ≤ N.length) :
    RS ⟨K, none, 0, S, fun a => if a = x then none else H a⟩ (start N (.ref x :: vs)) H (gI x c N ds) [] := by
  have e0 : start N (V.ref x :: vs) = some (V.ref x) :: (vs.map some ++ List.replicate (N.length - (vs.length + 1)) none) := rfl
  obtain ⟨h1, h2⟩ := pairs_dat (N.length - (ds.length + 1)) (List.replicate (N.length - (vs.length + 1)) none) r
  have ep : pairs (start N (V.ref x :: vs)) (gI x c N ds) = (.ref x, .own (.slf x c [])) :: pairs (vs.map some ++ List.replicate (N.length - (vs.length + 1)) none) (ds.map (fun d => some (B.dat d)) ++ List.replicate (N.length - (ds.length + 1)) none) := rfl
  have ow : owns (pairs (start N (V.ref x :: vs)) (gI x c N ds)) = [x] := by
    rw [ep]
    show x :: owns _ = [x]
    rw [h2]
  have es : sh ⟨K, none, 0, S, fun a => if a = x then none else H a⟩ ([] ++ pairs (start N (V.ref x :: vs)) (gI x c N ds)) = fun a => S a ∨ a = x := by
    funext a
    unfold sh
    rw [List.nil_append, ow]
    simp
  refine ⟨⟨fun p hp => ?_, fun a ha => ?_, ?_, hd, fun b z => (by cases z), fun a o _ z => ?_⟩, ?_, ?_⟩
  · rw [es]
    rw [List.nil_append, ep] at hp
    rcases List.mem_cons.mp hp with z | z
    · subst z
      exact ⟨x, rfl, .slf ex rfl .nil cl⟩
    · obtain ⟨d, e1, e2⟩ := h1 p z
      obtain ⟨v, b'⟩ := p
      cases e1
      exact e2
  · rw [List.nil_append, ow] at ha
    obtain rfl := List.mem_singleton.mp ha
    exact ⟨nx, if_pos rfl, by rw [ex]; exact fun z => by cases z⟩
  · rw [List.nil_append, ow]
    exact List.nodup_cons.mpr ⟨by simp, List.nodup_nil⟩
  · have z' : (if a = x then none else H a) = some o := z
    by_cases e : a = x
    · rw [if_pos e] at z'
      cases z'
    · rwa [if_neg e] at z'
  · have := r.length
    unfold gI
    rw [e0]
    simp only [List.length_append, List.length_map, List.length_replicate, List.length_cons]
    omega
  · intro i b' h
    rw [e0]
    cases i with
    | zero => exact ⟨_, rfl⟩
    | succ i => exact cov_dat _ _ r.length i b' h
theorem fnI (F : FunX K x qual st f fd) (S : FnScope N ps (defScope st)) (hlen : ∀ ds, pre ds → ds.length + 1 = ps.length)
    (hbody : ∀ (cdv : Value) (A : Around) (fr : List Env) (s : Shared) (H H0 : Hp) (E : XK) (S0 : Addr → Prop), Still base (A.deeper (envOfC qual (defScope st) s.heap.objs.size f cdv)) → Room k (A.deeper (envOfC qual (defScope st) s.heap.objs.size f cdv)) →
      ∃ t, SSD ⟨K, none, 0, S0, H0⟩ (cxOf CX0 P w K mg base N qual (defScope st) f cdv A fr s H E).nox (defBody st) t ∧ ∀ ds x, pre ds → t { nx := fun Γ => ∃ fs, Γ[0]? = some (some (.own (.slf x c fs))) ∧ post ds fs, rt := fun _ => False } (gI x c N ds)) : FnG P w K mg base CX0 (k + 1) f fd ps (spI K c pre post) := by
  have hpl : ps.length ≤ N.length := by have := congrArg List.length S.pre; rw [List.length_take] at this; omega
  obtain ⟨oc, od, dV, kV, doc, pm, an, cdv, ct, osl, rfl, lk, hcd⟩ := F.ex
  refine ⟨fun vs H Q E ⟨x, dx, ws, S0, ds, e, _, _, _, _, r, hp, _⟩ => by rw [e, List.length_cons, r.length]; exact hlen ds hp, ?_⟩
  intro A fr s H args us vs Q E hs hr e0 hb rv hsp
  have stay := fun b o (e : base.get? b = some o) => (e0.bs b o e).1
  have inK : K.In s.heap := e0.mod.kin.keeps stay
  have hnl : s.heap.NoLimit := e0.mod.nolimit.keeps stay
  refine codeAny_call_function hr.depth (inK _ _ lk) rfl S.co S.gen rfl (PySem.W.codeRec_of inK hcd) (hb _ _ _ _ ?_)
  refine wpAny_newFunctionEnv_cells S.kind ?kinds fun env he s1 inC => ?body
  case kinds =>
    rintro ⟨n, v⟩ hy
    exact (S.par n (List.of_mem_zip hy).1).imp id fun q => ⟨q, PySem.W.cellsFrom_some _ _ _ (.inl q)⟩
  case body =>
    subst he
    refine ⟨hnl.keeps inC.toInCall.keep, codeAny_func ?_⟩
    obtain ⟨x, dx, ws, S0, ds, e, ex, cl, hd, nx, r, hp, κ⟩ := hsp
    subst e
    have hw : (V.ref x :: ws).length = ps.length := by rw [List.length_cons, r.length]; exact hlen ds hp
    obtain ⟨t, ht, hq⟩ := hbody cdv A fr s H (fun a => if a = x then none else H a) E S0 hs.deeper (hr.deeper _)
    have I := inv_start (CX := CX0) (E := E) S hr.hd e0 hw rv inC
    have rs := RS.startI (N := N) ex cl hd nx r (by have := hw; rw [List.length_cons] at this; omega)
    have asks : liftS ⟨K, none, 0, S0, fun a => if a = x then none else H a⟩ t { nx := fun _ H' => Q .non H', rt := Q } (start N (V.ref x :: ws)) H := by
      refine ⟨gI x c N ds, [], _, rs, hq ds x hp, fun σ' H' Γ' ⟨fs, e1, e2⟩ q => ?_, fun _ _ _ _ _ z _ => z.elim, fun _ _ _ z _ => z.elim, fun _ _ _ z _ => z.elim⟩
      obtain ⟨v, f1, m⟩ := q.get e1
      obtain ⟨a, ea, f2⟩ := q.rel.ok _ m
      cases f2 with
      | @slf C dx' kvs kds g1 g2 g3 g4 =>
        have less : ∀ a, (S0 a ∨ a = x) → sh ⟨K, none, 0, S0, fun a => if a = x then none else H a⟩ ([] ++ pairs σ' Γ') a := fun a z => z.imp_right fun z => by
          rw [ea] at m
          rw [z]
          exact mem_owns m
        exact κ H' dx' kvs fs (fun b o nb e => q.rel.same b o (fun z => by cases z) (by show (if b = x then none else H b) = some o; rw [if_neg nb]; exact e)) g1 g2 (g3.mono (hid_mono less fun _ _ _ e => e)) e2
    refine wpAny_mono (ht.pss.nox.run [] s1 (start N (V.ref x :: ws)) H _ I asks) ?_ fun _ _ z => z
    intro fl s' z
    cases fl with
    | next =>
      obtain ⟨_, H', J, q⟩ := z
      exact ⟨V.non, H', J.os, J.bare, J.base, J.hok, rfl, q⟩
    | ret u =>
      obtain ⟨v, _, H', J, r', q⟩ := z
      exact ⟨v, H', J.os, J.bare, J.base, J.hok, r', q⟩
    | brk =>
      obtain ⟨_, _, _, q⟩ := z
      exact q.elim
    | cont =>
      obtain ⟨_, _, _, q⟩ := z
      exact q.elim
end
end DL

namespace DL
open PySem PySem.Spec PyProof.Rows L2
/-! ### own ==, len, repr -/
section
variable {X : Cx} {k : Nat} {f c : Addr} {fd : FuncData} {ps : List Str} {sp : Sp} {pins : List (Addr × Obj)} {σ : L2.St} {H : Hp} {s : Shared} {Q : VK}
/-- a def called from within a built-in one -/
theorem runGA {A : Around} {us : List Value} {vs : List V} (F : FnG X.prog X.w X.K X.mg X.base CX0 k f fd ps sp) (fr : A.frames = X.A.frames) (hst : Still X.base A) (hr : Room k A) (hb : Binds X.K fd ps []) (I : Inv X pins σ H s) (r : Vals vs us) (h : sp vs H Q E0) :
    wpAny (model X.prog X.w) A (call (.ref f) us) (EP X pins σ Q) X.xe s := by
  have e0 : Env0 X.prog X.w X.K X.mg X.base A X.stack s H := by
    have e := I.env0
    exact ⟨by rw [fr]; exact e.frames, e.mod, e.bs, e.bsz, e.funs, e.frf, e.hok, e.bare⟩
  have hl : us.length = ps.length := by rw [← r.length, F.len _ _ _ _ h]
  refine wpAny_call (codeAny_mono (F.run A X.stack s H ⟨us, []⟩ us vs Q E0 hst hr e0 (by
    have := hb s us I.kIn (by rw [List.append_nil]; exact hl)
    rwa [List.append_nil] at this) r h) fun r s' hq => ?_)
  cases r with
  | error e => exact (pass0 (X := X)) pins σ H s e s' I hq
  | ok fl =>
    cases fl with
    | ret w => exact I.after hq
    | next => exact False.elim hq
    | brk => exact False.elim hq
    | cont => exact False.elim hq
/-- a special method of the class -/
structure Own (K : PySem.W.Frag) (c : Addr) (m : Str) (f : Addr) : Prop where
  at_ : PySem.W.findIn K (.ref c) m = some (some (.ref f))
  fn : PySem.W.isFn K (.ref f) = true
def rEqO (c : Addr) (sp : Sp) : R2 := fun x y H Q => ∃ a b dx dy fs gs, x = .ref a ∧ y = .ref b ∧ H a = some (.ins c dx fs) ∧ H b = some (.ins c dy gs) ∧ sp [x, y] H (fun v H' => (∃ z, v = .bl z) ∧ Q v H') E0
theorem op_eqO (F : FnG X.prog X.w X.K X.mg X.base CX0 k f fd ps sp) (hst : Still X.base X.A) (hr : Room k X.A) (ho : Own X.K c "__eq__" f) (hb : Binds X.K fd ps []) : OpR X (compareOp .Eq) (rEqO c sp) := by
  intro pins s σ H x y u v Q I rx ry h
  obtain ⟨a, b, dx, dy, fs, gs, rfl, rfl, ha, hb', hq⟩ := h
  cases rx
  cases ry
  obtain ⟨mA, J, _⟩ := ins_get I.hok ha
  obtain ⟨mB, J', _⟩ := ins_get I.hok hb'
  obtain ⟨od, J, _⟩ := J.look
  obtain ⟨od', J', _⟩ := J'.look
  obtain ⟨m, hF⟩ := I.fr
  show wpAny (model X.prog X.w) X.A (richCompare .Eq (.ref a) (.ref b)) (EP X pins σ Q) X.xe s
  refine PySem.W.cmp_K (op := .Eq) (tb := .ref c) hr.units0 hF I.ok.mod.kin J J'.type (by simp [PySem.W.notFirst]) ho.at_ ho.fn ?_
  refine thn (runGA (us := [.ref a, .ref b]) (vs := [.ref a, .ref b]) F rfl hst hr hb I (.cons rfl (.cons rfl .nil)) hq) fun w s1 ⟨z, H', I', rz, ⟨b, ez⟩, q⟩ => ?_
  subst ez
  cases rz
  exact ⟨.bl b, H', I', rfl, q⟩
def rLenO (c : Addr) (sp : Sp) : List V → Hp → VK → Prop := fun xs H Q => ∃ a dx fs, xs = [.ref a] ∧ H a = some (.ins c dx fs) ∧ sp [.ref a] H (fun v H' => (∃ n : Int, v = .int n ∧ 0 ≤ n ∧ n < 2 ^ 63) ∧ Q v H') E0
theorem call_lenO (F : FnG X.prog X.w X.K X.mg X.base CX0 k f fd ps sp) (hst : Still X.base X.A) (hr : Room (k + 1) X.A) (ho : Own X.K c "__len__" f) (hb : Binds X.K fd ps []) : CallR X (.builtin "len") (rLenO c sp) := by
  intro pins s σ H xs us Q I r h
  obtain ⟨a, dx, fs, rfl, ha, hq⟩ := h
  obtain ⟨u, rfl, rx⟩ := vals1 r
  cases rx
  obtain ⟨mA, J, _⟩ := ins_get I.hok ha
  obtain ⟨od, J, _⟩ := J.look
  obtain ⟨m, hF⟩ := I.fr
  refine PySem.W.len_K hF I.ok.mod.kin J ho.at_ ho.fn ?_
  refine thn (runGA (A := X.A.in1) (us := [.ref a]) (vs := [.ref a]) F rfl hst hr.in1 hb I (.cons rfl .nil) hq) fun w s1 ⟨z, H', I', rz, ⟨n, ez, n0, n1⟩, q⟩ => ?_
  subst ez
  obtain ⟨t, rfl⟩ := rz
  exact ⟨⟨n0, n1⟩, ⟨.int n, H', I'.tok _, ⟨_, rfl⟩, q⟩⟩
def rReprO (c : Addr) (sp : Sp) : List V → Hp → VK → Prop := fun xs H Q => ∃ a dx fs, xs = [.ref a] ∧ H a = some (.ins c dx fs) ∧ sp [.ref a] H (fun v H' => (∃ n : Str, v = .str n) ∧ Q v H') E0
theorem call_reprO (F : FnG X.prog X.w X.K X.mg X.base CX0 k f fd ps sp) (hst : Still X.base X.A) (hr : Room (k + 1) X.A) (ho : Own X.K c "__repr__" f) (hb : Binds X.K fd ps []) : CallR X (.builtin "repr") (rReprO c sp) := by
  intro pins s σ H xs us Q I r h
  obtain ⟨a, dx, fs, rfl, ha, hq⟩ := h
  obtain ⟨u, rfl, rx⟩ := vals1 r
  cases rx
  obtain ⟨mA, J, _⟩ := ins_get I.hok ha
  obtain ⟨od, J, _⟩ := J.look
  obtain ⟨m, hF⟩ := I.fr
  refine PySem.W.repr_K hr.in1.units0 hF I.ok.mod.kin J ho.at_ ho.fn ?_
  refine thn (runGA (A := X.A.in1) (us := [.ref a]) (vs := [.ref a]) F rfl hst hr.in1 hb I (.cons rfl .nil) hq) fun w s1 ⟨z, H', I', rz, ⟨n, ez⟩, q⟩ => ?_
  subst ez
  obtain ⟨t, rfl⟩ := rz
  exact ⟨.str n, H', I', ⟨_, rfl⟩, q⟩
end
/-! the same of data -/
section
variable {C : Cq} {X : Cx} {c : Addr} {pre : List D → Prop} {post : List D → D → Prop}
def fEqO (c : Addr) (pre : List D → Prop) (post : List D → D → Prop) : F2 := fun x y k => (∃ fs, x = .obj c fs) ∧ (∃ gs, y = .obj c gs) ∧ pre [x, y] ∧ ∀ r, post [x, y] r → (∃ b, r = .bl b) ∧ k r
theorem rp_bl {K : PySem.W.Frag} {H : Hp} {v : V} {b : Bool} (r : Rp K H v (.bl b)) : v = .bl b := by
  cases r
  rfl
theorem o2_eqO : Op2 C (rEqO c (spD C.K pre post)) (fEqO c pre post) := fun σ H Γ Ts x y d e k Q r ⟨⟨fs, h1⟩, ⟨gs, h2⟩, hp, hq⟩ ans => by
  subst h1 h2
  have t2 := r.top
  have t1 := r.drop.top
  have sw : sh C ((x, B.dat (.obj c fs)) :: Ts ++ pairs σ Γ) = sh C (Ts ++ pairs σ Γ) := sh_dat
  rw [sw] at t2
  obtain ⟨a, dx, kvs, rfl, a1, _, _, _⟩ := rd_obj t1
  obtain ⟨b, dy, lvs, rfl, b1, _, _, _⟩ := rd_obj t2
  refine ⟨a, b, dx, dy, kvs, lvs, rfl, rfl, hid_full _ _ a1, hid_full _ _ b1, sh C (Ts ++ pairs σ Γ), _, fun a z => r.drop.drop.rel.thing z, .cons t1 (.cons t2 .nil), hp, fun v' H' d' g hd rv => ?_⟩
  obtain ⟨⟨z, ez⟩, hk⟩ := hq d' hd
  refine ⟨⟨z, ?_⟩, ans v' H' d' hk ((r.drop.drop.grow g).push rv)⟩
  subst ez
  exact rp_bl rv
def fLenO (c : Addr) (pre : List D → Prop) (post : List D → D → Prop) : FB := fun ds k => ∃ fs, ds = [.obj c fs] ∧ pre [.obj c fs] ∧ ∀ r, post [.obj c fs] r → (∃ n : Int, r = .int n ∧ 0 ≤ n ∧ n < 2 ^ 63) ∧ k r
theorem cc_lenO : CallC C (rLenO c (spD C.K pre post)) (fLenO c pre post) := fun σ H Γ Ts vs ds k Q q ⟨fs, h1, hp, hq⟩ ans => by
  subst h1
  obtain ⟨v, rfl, t⟩ := q.one
  obtain ⟨a, dx, kvs, rfl, a1, _, _, _⟩ := rd_obj t
  refine ⟨a, dx, kvs, rfl, hid_full _ _ a1, sh C (Ts ++ pairs σ Γ), _, fun a z => q.1.rel.thing z, .cons t .nil, hp, fun v' H' d' g hd rv => ?_⟩
  obtain ⟨⟨n, ez, n0, n1⟩, hk⟩ := hq d' hd
  refine ⟨⟨n, ?_, n0, n1⟩, ans v' H' d' hk ((q.1.grow g).push rv)⟩
  subst ez
  cases rv
  rfl
def fReprO (c : Addr) (pre : List D → Prop) (post : List D → D → Prop) : FB := fun ds k => ∃ fs, ds = [.obj c fs] ∧ pre [.obj c fs] ∧ ∀ r, post [.obj c fs] r → (∃ n : Str, r = .str n) ∧ k r
theorem cc_reprO : CallC C (rReprO c (spD C.K pre post)) (fReprO c pre post) := fun σ H Γ Ts vs ds k Q q ⟨fs, h1, hp, hq⟩ ans => by
  subst h1
  obtain ⟨v, rfl, t⟩ := q.one
  obtain ⟨a, dx, kvs, rfl, a1, _, _, _⟩ := rd_obj t
  refine ⟨a, dx, kvs, rfl, hid_full _ _ a1, sh C (Ts ++ pairs σ Γ), _, fun a z => q.1.rel.thing z, .cons t .nil, hp, fun v' H' d' g hd rv => ?_⟩
  obtain ⟨⟨n, ez⟩, hk⟩ := hq d' hd
  refine ⟨⟨n, ?_⟩, ans v' H' d' hk ((q.1.grow g).push rv)⟩
  subst ez
  cases rv
  rfl
/-! f'..{x!r}..' -/
def tFmtRD (K : PySem.W.Frag) (te : TE) : TE := fun σ H Q => te σ H fun x H1 => ∃ a d, x = .ref a ∧ Rp K H1 x d ∧ Shw d ∧ Q (.str d.py.shown) H1
theorem pe_fmtRD {e : Expr} {te : TE} {pos : Pos} (hst : Still X.base X.A) (hu : X.A.units + 70 < cLine) (he : PE X e te) : PE X (.FormattedValue e 114 none pos) (tFmtRD X.K te) := by
  refine ⟨fun pins s σ H Q I h => ?_⟩
  refine wpAny_FormattedValue_repr (thn (he.run pins s σ H _ I h) fun v s1 ⟨x, H1, I1, r1, a, d, ex, rp, ⟨s0, s1', s3, s4⟩, q⟩ => ?_)
  subst ex
  obtain rfl : v = Value.ref a := r1
  obtain ⟨as, rd, ns⟩ := Rp.reads I1 hst.2 rp s0 rfl
  refine pyReprObj_of_reads rd s1' (fun _ => ns) hst.1 (by omega) (fun _ _ z => z) (fun h' u tk hk => ?_) s4
  exact wpAny_formatField_str ⟨.str _, H1, I1.kept hk, ⟨_, rfl⟩, q⟩ ⟨.str _, H1, (I1.kept (t' := tk) hk).tok _, ⟨_, rfl⟩, q⟩ s4
def dFmtR (a : DE) : DE := fun Γ k => a Γ fun d => (∃ xs, d = .lst xs) ∧ Shw d ∧ k (.str d.py.shown)
theorem ed_fmtR {e : Expr} {a : DE} {pos : Pos} (hk : C.K = X.K) (hst : Still X.base X.A) (hu : X.A.units + 70 < cLine) (he : ED C X e a) : ED C X (.FormattedValue e 114 none pos) (dFmtR a) :=
  ⟨(pe_fmtRD hst hu he.pe).weak fun σ H Q ⟨Γ, Ts, k, r, h, ans⟩ => ⟨Γ, Ts, _, r, h, fun v H1 d ⟨⟨xs, h1⟩, h2, h3⟩ r1 => by
    subst h1
    have t := r1.top1
    rw [hk] at t
    have ta := t
    cases ta with
    | lst e q => exact ⟨_, _, rfl, t, h2, ans _ _ _ h3 (r1.drop.str _)⟩⟩⟩
def dJs : List DE → Str → DE
  | [], acc => fun _ k => k (.str acc)
  | t :: ts, acc => fun Γ k => t Γ fun d => ∃ y : Str, d = .str y ∧ (acc ++ y).length ≤ sizeLine ∧ dJs ts (acc ++ y) Γ k
inductive JD (C : Cq) (X : Cx) : List Expr → List DE → Prop
  | nil : JD C X [] []
  | cons {e : Expr} {t : DE} {es : List Expr} {ts : List DE} (h : ED C X e t) (r : JD C X es ts) : JD C X (e :: es) (t :: ts)
theorem JD.pj : ∀ {es : List Expr} {ts : List DE}, JD C X es ts → PJ X es (ts.map (liftE C))
  | _, _, .nil => .nil
  | _, _, .cons h r => .cons h.pe r.pj
theorem js_go {σ : L2.St} {Γ : G} {Ts : List (V × B)} {k : D → Prop} {Q : VK} (ans : Ans C σ Γ Ts k Q) : ∀ (ts : List DE) (acc : Str) (H : Hp), RS C σ H Γ Ts → dJs ts acc Γ k → tJs (ts.map (liftE C)) acc σ H fun out H1 => Q (.str out) H1
  | [], acc, H, r, h => ans _ _ _ h (r.str acc)
  | t :: ts, acc, H, r, h => ⟨Γ, Ts, _, r, h, fun v H1 d ⟨y, h1, h2, h3⟩ r1 => by
    subst h1
    cases r1.top1
    exact ⟨y, rfl, h2, js_go ans ts _ H1 r1.drop h3⟩⟩
theorem ed_joined {v1 v2 : Expr} {rest : List Expr} {ts : List DE} {pos : Pos} (h : JD C X (v1 :: v2 :: rest) ts) : ED C X (.JoinedStr (v1 :: v2 :: rest) pos) (dJs ts Str.empty) :=
  ⟨(pe_joined h.pj).weak fun σ H Q ⟨Γ, Ts, k, r, h, ans⟩ => js_go ans ts _ H r h⟩
/-! isinstance(x, C), C an own class -/
structure IsC (K : PySem.W.Frag) (c : Addr) : Prop where
  yes : PySem.W.kitOne K (.ref c) (.ref c) = some true
  no : ∀ T ∈ ["NoneType", "int", "bool", "str", "list", "tuple", "dict"], PySem.W.kitOne K (.type T) (.ref c) = some false
/-- of this class; other own classes aside -/
def isC (c : Addr) : D → Option Bool
  | .obj a _ => if a = c then some true else none
  | .slf _ a _ => if a = c then some true else none
  | _ => some false
theorem kit_isC {K : PySem.W.Frag} {c : Addr} (h : IsC K c) {d : D} {b : Bool} (e : isC c d = some b) : PySem.W.kitOne K (tyD d) (.ref c) = some b := by
  cases d with
  | obj a fs =>
    simp only [isC] at e
    by_cases z : a = c
    · rw [if_pos z] at e
      cases e
      rw [← z] at h ⊢
      exact h.yes
    · rw [if_neg z] at e
      cases e
  | slf x a fs =>
    simp only [isC] at e
    by_cases z : a = c
    · rw [if_pos z] at e
      cases e
      rw [← z] at h ⊢
      exact h.yes
    · rw [if_neg z] at e
      cases e
  | non => cases e; exact h.no "NoneType" (by simp)
  | bl _ => cases e; exact h.no "bool" (by simp)
  | int _ => cases e; exact h.no "int" (by simp)
  | str _ => cases e; exact h.no "str" (by simp)
  | lst _ => cases e; exact h.no "list" (by simp)
  | tup _ => cases e; exact h.no "tuple" (by simp)
  | dK _ => cases e; exact h.no "dict" (by simp)
  | dT _ => cases e; exact h.no "dict" (by simp)
  | emp => cases e; exact h.no "tuple" (by simp)
def dIsC (c : Addr) (a : DE) : DE := fun Γ k => a Γ fun d => ∃ b, isC c d = some b ∧ k (.bl b)
theorem ed_isC {y : Str} {e : Expr} {a : DE} {p q pos : Pos} (hk : C.K = X.K) (ha : ED C X e a) (hg : Gl X "isinstance") (hm : X.mg "isinstance" = none) (hg2 : Gl X y) (hm2 : X.mg y = some (.ref c)) (hc : IsC X.K c) (hd : (y == ("__debug__" : Str)) = false := by decide)
    (he : starEach [e, .Name y q] X.env = (false, eval e X.env) :: starEach [.Name y q] X.env := by rfl) (he2 : starEach [.Name y q] X.env = (false, eval (.Name y q) X.env) :: starEach [] X.env := by rfl) (hpl : (backTo pos (starEach [.Name y q] X.env)).any (·.1) = false := by rfl) :
    ED C X (.Call (.Name "isinstance" p) [e, .Name y q] [] pos) (dIsC c a) :=
  ⟨(pe_callB call_isiY hg hm (by decide +kernel) (pa_cons ha.pe (pa_cons (pe_glob (v := .ref c) hg2 hm2 rfl hd) pa_nil he2) he) (he := he) (hpl := hpl)).weak fun σ H Q ⟨Γ, Ts, k, r, h, ans⟩ => ⟨Γ, Ts, _, r, h, fun v H' d ⟨b, hb, hd⟩ r' => by
    refine ⟨v, .ref c, tyD d, .ref c, b, rfl, .own c, ?_, kit_isC hc hb, ans _ _ _ hd (r'.drop.bl _)⟩
    rw [← hk]
    exact tyX_of r'.top1⟩⟩
end
end DL

namespace DL
open PySem PySem.Spec PyProof.Rows L2
/-! ### d == e, the keys tuples -/
section
variable {prog : Program} {w : World} {κ : Type} [DecidableEq κ] {knd : HeapKind prog w κ} {A : Around} {E : Value → Shared → Prop} {s : Shared}
def allH (e : κ → Bool) (kb : List (κ × Addr × Value)) (l : List (κ × Addr × Value)) : Bool := l.all fun x => (atKey kb x.1).isSome && e x.1
theorem samePairsH {nm : String} {a b : Addr} {ka kb : List (κ × Addr × Value)} {Q : Bool → Shared → Prop} (e : κ → Bool) (ha : (a == sysModules) = false) (hb : (b == sysModules) = false) (da : s.heap.DictOfH knd a ka) (db : s.heap.DictOfH knd b kb) (hr : knd.room A)
    (he : ∀ x ∈ ka, ∀ st, atKey kb x.1 = some st → SeqAt.EqAt A s x.2.2 st.2 (e x.1)) (h : Q (ka.length == kb.length && allH e kb ka) s) : wpAny (model prog w) A (Builtin.Dict.samePairs nm a b) Q E s := by
  obtain ⟨oa, es, ep, oA, _, dA, rowA, isA, ndA⟩ := da
  obtain ⟨ob, fs, fp, oB, _, dB, rowB, isB, ndB⟩ := db
  have lenA : es.size = ka.length := size_of_entries rowA
  have lenB : fs.size = kb.length := size_of_entries rowB
  rw [← lenA, ← lenB] at h
  unfold Builtin.Dict.samePairs Builtin.Dict.showsAll
  rw [if_neg (show ¬ (a == sysModules) = true by rw [ha]; exact Bool.false_ne_true), if_neg (show ¬ (b == sysModules) = true by rw [hb]; exact Bool.false_ne_true)]
  refine wpAny_bind (wpAny_pure (wpAny_bind (wpAny_pure ?_)))
  refine wpAny_bind (wpAny_dictEntries oA dA ?_)
  dsimp only
  refine wpAny_bind (wpAny_dictEntries oB dB ?_)
  by_cases szE : es.size = fs.size
  case neg =>
    rw [if_pos (by simpa using szE)]
    have szF : (es.size == fs.size) = false := by simpa using szE
    rw [szF, Bool.false_and] at h
    exact wpAny_bind (wpAny_rule (wpAny_pure h))
  case pos =>
    have goal_ : Q (allH e kb ka) s := by simpa [szE] using h
    rw [if_neg (by rw [szE]; simp)]
    refine wpAny_bind (wpAny_dictEpoch oA dA ?_)
    refine wpAny_bind ?_
    rw [Std.Legacy.Range.forIn_eq_forIn_range']
    simp only [Std.Legacy.Range.size, Nat.sub_zero, Nat.add_sub_cancel, Nat.div_one]
    refine wpAny_forIn_list _
      (fun more st s' => s' = s ∧ st = (none, ()) ∧ ∃ i, more = List.range' i (es.size - i) ∧ i ≤ es.size ∧ allH e kb ka = allH e kb (ka.drop i))
      _ ?_ ?_ _ _ ⟨rfl, rfl, 0, by simp, Nat.zero_le _, rfl⟩
    · rintro x more st s' ⟨rfl, rfl, i, range_, hi, done_⟩
      have inA : i < es.size := by
        rcases Nat.lt_or_ge i es.size with h | h
        · exact h
        · rw [Nat.sub_eq_zero_of_le h] at range_; simp at range_
      obtain ⟨rfl, rest_⟩ : x = i ∧ more = List.range' (i + 1) (es.size - (i + 1)) := by
        have e : es.size - i = (es.size - (i + 1)) + 1 := by omega
        rw [e, List.range'_succ] at range_
        injection range_ with h1 h2
        exact ⟨h1, h2⟩
      refine wpAny_bind (wpAny_dictEntries oA dA ?_)
      rw [Array.getElem?_eq_getElem inA]
      have inK : x < ka.length := by omega
      obtain ⟨k, p, v, kvE⟩ : ∃ k p v, ka[x] = (k, p, v) := ⟨_, _, _, rfl⟩
      have dropE : ka.drop x = (k, p, v) :: ka.drop (x + 1) := by rw [← kvE]; exact List.drop_eq_getElem_cons inK
      have entE : es[x] = entryOfKey knd (k, p, v) := by
        have st := entry_at rowA x
        rw [Array.getElem?_eq_getElem inA, List.getElem?_eq_getElem inK, kvE] at st
        exact Option.some.inj st
      have memE : (k, p, v) ∈ ka := by rw [← kvE]; exact List.getElem_mem inK
      have keyE : knd.is s'.heap k p := isA _ memE
      rw [dropE] at done_
      show wpAny _ _ (holding [es[x].key, es[x].val] _ >>= _) _ _ _
      rw [entE]
      refine wpAny_bind (wpAny_holding (wpAny_bind ?_))
      show wpAny _ _ (dictFind b (.ref p) (knd.hash k)) _ _ _
      refine wpAny_dictFind_heap hr keyE oB dB rowB isB ndB (fun hnone => ?_) fun j st hj => ?_
      · have hn : atKey kb k = none := atKey_none_of_get hnone
        have er : allH e kb ka = false := by
          rw [done_]
          unfold allH
          rw [List.all_cons, hn]
          rfl
        rw [er] at goal_
        refine wpAny_pure ?_
        show wpAny _ _ (if (!false) = true then _ else _) _ _ _
        rw [if_pos (by decide)]
        exact wpAny_pure (wpAny_pure goal_)
      · have inB : atKey kb k = some st := atKey_of_get ndB hj
        have ltB : j < fs.size := by
          rw [lenB]
          exact (List.getElem?_eq_some_iff.mp hj).1
        have valE : fs[j].val = st.2 := by
          have z := entry_at rowB j
          rw [Array.getElem?_eq_getElem ltB, hj] at z
          rw [Option.some.inj z]
          rfl
        refine wpAny_bind (wpAny_dictEntries oB dB ?_)
        rw [Array.getElem?_eq_getElem ltB]
        have sameE := he _ memE st inB
        rw [← valE] at sameE
        refine wpAny_holding (sameE prog w _ _ ?_)
        have er : allH e kb ka = (e k && allH e kb (ka.drop (x + 1))) := by
          rw [done_]
          unfold allH
          rw [List.all_cons, inB]
          rfl
        cases z : e k with
        | false =>
          rw [er, z, Bool.false_and] at goal_
          show wpAny _ _ (if (!false) = true then _ else _) _ _ _
          rw [if_pos (by decide)]
          exact wpAny_pure (wpAny_pure goal_)
        | true =>
          rw [z, Bool.true_and] at er
          show wpAny _ _ (if (!true) = true then _ else _) _ _ _
          rw [if_neg (by decide)]
          refine wpAny_bind (wpAny_dictEpoch oA dA ?_)
          rw [if_neg (by simp)]
          exact wpAny_pure ⟨rfl, rfl, x + 1, rest_, inA, er⟩
    · rintro st s' ⟨rfl, rfl, i, range_, hi, done_⟩
      have endE : i = es.size := by
        rcases Nat.lt_or_ge i es.size with h | h
        · have e : es.size - i = (es.size - (i + 1)) + 1 := by omega
          rw [e, List.range'_succ] at range_; exact nomatch range_
        · exact Nat.le_antisymm hi h
      refine wpAny_pure ?_
      rw [endE, lenA, List.drop_length] at done_
      rw [done_] at goal_
      exact goal_
theorem cmp_dictsH {a b : Addr} {ka kb : List (κ × Addr × Value)} {Q : Value → Shared → Prop} (e : κ → Bool) (ha : (a == sysModules) = false) (hb : (b == sysModules) = false) (da : s.heap.DictOfH knd a ka) (db : s.heap.DictOfH knd b kb) (hu : A.units < cLine) (hr : knd.room A.in1)
    (he : ∀ x ∈ ka, ∀ st, atKey kb x.1 = some st → SeqAt.EqAt A.in1 s x.2.2 st.2 (e x.1)) (h : Q (.bool (ka.length == kb.length && allH e kb ka)) s) : wpAny (model prog w) A (compareOp .Eq (.ref a) (.ref b)) Q E s := by
  refine wpAny_richCompare_same_room (op := .Eq) da.typeIs db.typeIs PySem.F.slot_dict_eq (wpAny_call_entry PySem.F.slot_dict_eq da.typeIs PySem.F.entry_dict_eq ?_ (PySem.F.args_dict_eq_2 _ _)) hu
  show wpAny _ _ (Builtin.Dict.dictSlotArgs "__eq__" ⟨[.ref a, .ref b], []⟩ >>= _) _ _ s
  refine wpAny_bind ?_
  unfold Builtin.Dict.dictSlotArgs
  refine wpAny_bind (wpAny_notOrdered_dict da.typeIs ?_)
  show wpAny _ _ (pure (Value.ref a, Value.ref b)) _ _ s
  refine wpAny_pure ?_
  refine wpAny_bind (wpAny_isInstance (T := "dict") db.typeIs PySem.F.sub_dict_dict ?_)
  simp only [Bool.not_true, Bool.false_eq_true, if_false]
  refine wpAny_bind (wpAny_pure (wpAny_bind (wpAny_pure ?_)))
  refine wpAny_bind (samePairsH e ha hb da db hr he ?_)
  refine wpAny_pure ⟨_, rfl, ?_, ?_⟩
  · exact fun x => nomatch x
  · simpa using h
end
def eqT (kds lds : List (List Key × D)) : Bool := (kds.length == lds.length) && kds.all fun p => match valG lds p.1 with | some z => PyData.eqv p.2.py z.py | none => false
def rEqDT (K : PySem.W.Frag) : R2 := fun x y H Q => ∃ kds lds, Rp K H x (.dT kds) ∧ Rp K H y (.dT lds) ∧ (∀ p ∈ kds, Cmp p.2) ∧ (∀ p ∈ lds, Cmp p.2) ∧ Q (.bl (eqT kds lds)) H
theorem all_cg {α : Type} {f g : α → Bool} : ∀ {l : List α}, (∀ x ∈ l, f x = g x) → l.all f = l.all g
  | [], _ => rfl
  | x :: l, h => by rw [List.all_cons, List.all_cons, h x List.mem_cons_self, all_cg fun y hy => h y (List.mem_cons_of_mem _ hy)]
theorem valG_nd {κ : Type} [DecidableEq κ] : ∀ {kds : List (κ × D)}, (kds.map (·.1)).Nodup → ∀ p ∈ kds, valG kds p.1 = some p.2
  | [], _, p, h => by cases h
  | st :: kds, hn, p, h => by
    rw [List.map_cons, List.nodup_cons] at hn
    rcases List.mem_cons.mp h with rfl | h
    · exact valG_pos rfl
    · have : ¬ st.1 = p.1 := fun z => hn.1 (by rw [z]; exact List.mem_map.mpr ⟨p, h, rfl⟩)
      rw [valG_neg this]
      exact valG_nd hn.2 p h
section
variable {X : Cx}
theorem kt_keys {H : Hp} : ∀ {kvs : List (List Key × V)} {xs : List (List Key × Addr × Value)}, KT H kvs xs → xs.map (·.1) = kvs.map (·.1)
  | _, _, .nil => rfl
  | _, _, .cons r t => by rw [List.map_cons, List.map_cons, kt_keys t, r.1]
theorem kt_val {H : Hp} {kvs : List (List Key × V)} {xs : List (List Key × Addr × Value)} (rel : KT H kvs xs) {k : List Key} {p : Addr × Value} (h : atKey xs k = some p) : ∃ v, valV kvs k = some v ∧ RelV v p.2 := by
  have r := rel.val k
  rw [h] at r
  cases ev : valV kvs k with
  | none =>
    rw [ev] at r
    exact (show False from r).elim
  | some v0 =>
    rw [ev] at r
    exact ⟨v0, rfl, r⟩
theorem op_eqDT (hu : X.A.units + 65 < cLine) : OpR X (compareOp .Eq) (rEqDT X.K) := by
  intro pins s σ H x y u v Q I rx ry h
  obtain ⟨kds, lds, r1, r2, c1, c2, st⟩ := h
  obtain ⟨a, ks, rfl, e1, e2, e3⟩ := rd_dT r1
  obtain ⟨b, ls, rfl, f1, f2, f3⟩ := rd_dT r2
  obtain rfl : u = Value.ref a := rx
  obtain rfl : v = Value.ref b := ry
  obtain ⟨_, ya, xa, ra, da⟩ := dt_rd I.hok e1
  obtain ⟨_, yb, xb, rb, db⟩ := dt_rd I.hok f1
  let e : List Key → Bool := fun k => match valG kds k, valG lds k with | some d, some z => PyData.eqv d.py z.py | _, _ => false
  have nda : (xa.map (·.1)).Nodup := da.choose_spec.choose_spec.choose_spec.2.2.2.2.2
  have ndk : (kds.map (·.1)).Nodup := by rw [← e2, ← kt_keys ra]; exact nda
  have ist : ∀ (k : List Key) (p : Addr × Value), atKey xb k = some p → ∃ w z, valV ls k = some w ∧ valG lds k = some z ∧ Rp X.K H w z ∧ RelV w p.2 := fun k p h => by
    obtain ⟨w, h1, h2⟩ := kt_val rb h
    rcases val_rel f2 f3 k with ⟨q1, q2⟩ | ⟨w', z, q1, q2, q3⟩
    · rw [q1] at h1
      cases h1
    · rw [q1] at h1
      cases h1
      exact ⟨w, z, q1, q2, q3, h2⟩
  have isa : ∀ (k : List Key) (p : Addr × Value), atKey xa k = some p → ∃ w z, valV ks k = some w ∧ valG kds k = some z ∧ Rp X.K H w z ∧ RelV w p.2 := fun k p h => by
    obtain ⟨w, h1, h2⟩ := kt_val ra h
    rcases val_rel e2 e3 k with ⟨q1, q2⟩ | ⟨w', z, q1, q2, q3⟩
    · rw [q1] at h1
      cases h1
    · rw [q1] at h1
      cases h1
      exact ⟨w, z, q1, q2, q3, h2⟩
  refine cmp_dictsH (knd := tupleKind (mixKind X.prog X.w)) e ya yb da db (by omega) (by show X.A.units + 1 < cLine; omega) (fun x hx p hp => ?_) ?_
  · obtain ⟨j, hj⟩ := List.mem_iff_getElem?.mp hx
    obtain ⟨k0, p0⟩ := x
    have hx' : atKey xa k0 = some p0 := atKey_of_get nda hj
    obtain ⟨w1, d1, g1, g2, g3, g4⟩ := isa k0 p0 hx'
    obtain ⟨w2, d2, k1, k2, k3, k4⟩ := ist k0 p hp
    have m1 := c1 _ (valG_mem g2)
    have m2 := c2 _ (valG_mem k2)
    obtain ⟨as, rd1⟩ := Dp.reads I d1.py w1 p0.2 (g3.dp m1.flat) g4
    obtain ⟨bs, rd2⟩ := Dp.reads I d2.py w2 p.2 (k3.dp m2.flat) k4
    have ee : e k0 = PyData.eqv d1.py d2.py := by
      show (match valG kds k0, valG lds k0 with | some d, some z => PyData.eqv d.py z.py | _, _ => false) = _
      rw [g2, k2]
    show SeqAt.EqAt X.A.in1 s p0.2 p.2 (e k0)
    rw [ee]
    refine SeqAt.eqAt_reads d1.py d2.py X.A.in1 s p0.2 p.2 as bs rd1 rd2 (SeqAt.canLay_of_shaped m1) (SeqAt.canLay_of_shaped m2) ?_
    have d64 : d1.py.depth ≤ 64 := by
      have := m1
      unfold Cmp SeqAt.shaped at this
      simp only [Bool.and_eq_true, decide_eq_true_eq] at this
      omega
    show X.A.units + 1 + min d1.py.depth d2.py.depth < cLine
    omega
  · refine ⟨.bl (eqT kds lds), H, I, ?_, st⟩
    show Value.bool _ = Value.bool _
    refine congrArg Value.bool ?_
    have l1 : xa.length = kds.length := by
      have h1 := congrArg List.length (kt_keys ra)
      have h2 := congrArg List.length e2
      simp only [List.length_map] at h1 h2
      omega
    have l2 : xb.length = lds.length := by
      have h1 := congrArg List.length (kt_keys rb)
      have h2 := congrArg List.length f2
      simp only [List.length_map] at h1 h2
      omega
    unfold eqT
    rw [l1, l2]
    refine congrArg _ ?_
    have a1 : allH e xb xa = (xa.map (·.1)).all fun k => (atKey xb k).isSome && e k := by unfold allH; rw [List.all_map]; rfl
    have a2 : (kds.all fun p => match valG lds p.1 with | some z => PyData.eqv p.2.py z.py | none => false) = (kds.map (·.1)).all fun k => (atKey xb k).isSome && e k := by
      rw [List.all_map]
      refine all_cg fun p hp => ?_
      show _ = ((atKey xb p.1).isSome && (match valG kds p.1, valG lds p.1 with | some d, some z => PyData.eqv d.py z.py | _, _ => false))
      rw [valG_nd ndk p hp]
      cases z : atKey xb p.1 with
      | some st =>
        obtain ⟨w2, d2, k1, k2, k3, k4⟩ := ist p.1 st z
        rw [k2]
        rfl
      | none =>
        have r := rb.val p.1
        rw [z] at r
        have vn : valV ls p.1 = none := by
          cases ev : valV ls p.1 with
          | none => rfl
          | some v0 =>
            rw [ev] at r
            exact (show False from r).elim
        rcases val_rel f2 f3 p.1 with ⟨q1, q2⟩ | ⟨w', z', q1, q2, q3⟩
        · rw [q2]
          rfl
        · rw [vn] at q1
          cases q1
    rw [a1, a2, kt_keys ra, e2]
end
section
variable {C : Cq} {X : Cx}
def fEqDT : F2 := fun x y k => ∃ kds lds, x = .dT kds ∧ y = .dT lds ∧ (∀ p ∈ kds, Cmp p.2) ∧ (∀ p ∈ lds, Cmp p.2) ∧ k (.bl (eqT kds lds))
theorem o2_eqDT : Op2 C (rEqDT C.K) fEqDT := fun σ H Γ Ts x y d e k Q r ⟨kds, lds, h1, h2, c1, c2, hk⟩ ans => by
  subst h1 h2
  exact ⟨kds, lds, r.drop.top1, r.top1, c1, c2, ans _ _ _ hk (r.drop.drop.bl _)⟩
end
end DL

namespace DL
open PySem PySem.Spec PyProof.Rows L2
/-! ### sorted of paths: tuples of one text or more -/
def IsPth (h : Heap) (v : Value) (ks : List Str) : Prop := ∃ (p : Addr) (o : Obj) (its : Array Value) (m : Nat), v = .ref p ∧ h.get? p = some o ∧ o.cls = .type "tuple" ∧ o.data = .seq its m ∧ Vals (ks.map V.str) its.toList ∧ ks ≠ []
theorem IsPth.keeps {h h' : Heap} {v : Value} {ks : List Str} (r : IsPth h v ks) (k : ∀ b o, h.get? b = some o → o.cls = .type "tuple" → h'.get? b = some o) : IsPth h' v ks := by
  obtain ⟨p, o, its, m, e, ho, hc, hd, hi⟩ := r
  exact ⟨p, o, its, m, e, k _ _ ho hc, hc, hd, hi⟩
section
variable {prog : Program} {w : World} {A : Around} {E : Value → Shared → Prop} {s : Shared}
theorem paths_cmp {vs : List Value} {k : Value → List Str} (hu : A.units + 1 < cLine) (hp : ∀ v ∈ vs, IsPth s.heap v (k v)) : SrtO.Cmp prog w A s (tuples' true) (fun p => p.1 ∈ vs) (SrtO.lt2 fun v u => ltK (k v) (k u)) := by
  intro p q hm hm'
  show wpAny (model prog w) A (keyLt' (tuples' true) p.1 q.1) (fun r s' => s' = s ∧ r = ltK (k p.1) (k q.1)) (fun _ _ => False) s
  have h1 := hp _ hm
  have h2 := hp _ hm'
  generalize k p.1 = x at h1 ⊢
  generalize k q.1 = y at h2 ⊢
  obtain ⟨pa, op, its, m, e, ho, hc, hd, hi, n0⟩ := h1
  obtain ⟨pa', op', its', m', e', ho', hc', hd', hi', n0'⟩ := h2
  rw [e, e']
  refine PySem.W.kat_lt ho hd ho' hd' ?_
  have l1 : its.size = x.length := by rw [← Array.length_toList, ← hi.length, List.length_map]
  have l2 : its'.size = y.length := by rw [← Array.length_toList, ← hi'.length, List.length_map]
  refine PySem.W.katLex_alike (x.map PyData.str) (y.map PyData.str) 0 its.toList its'.toList [] [] (reads_strs hi) (reads_strs hi') (alike_strs x y) ?_ (fun _ _ d r t ed => ?_) ?_ ⟨rfl, ?_⟩
  · rw [depth_strs]
    omega
  · cases x with
    | nil => cases ed
    | cons c x =>
      cases ed
      exact fun z => by cases z
  · rw [List.length_map, List.length_map, l1, l2]
  · unfold ltK pthD
    rw [PySem.W.dataLt_tuple]
theorem paths_firsts {h : Heap} {k : Value → List Str} : ∀ {vs : List Value}, (∀ v ∈ vs, IsPth h v (k v)) → ∃ fs, PySem.W.KatTups h vs fs ∧ fs.length = vs.length ∧ ∀ f ∈ fs, ∃ x t, f = Value.str x t
  | [], _ => ⟨[], PySem.W.KatTups.nil, rfl, fun _ z => by cases z⟩
  | v :: vs, hp => by
    obtain ⟨fs, h1, h2, h3⟩ := paths_firsts fun u hu => hp u (List.mem_cons_of_mem _ hu)
    obtain ⟨p, o, its, m, e, ho, hc, hd, hi, n0⟩ := hp v List.mem_cons_self
    rw [e]
    generalize k v = ks at hi n0
    cases ks with
    | nil => exact absurd rfl n0
    | cons x ks =>
      obtain ⟨l⟩ := its
      cases hi with
      | cons r t =>
        obtain ⟨tk, rfl⟩ := (show ∃ t, _ = Value.str x t from r)
        refine ⟨_ :: fs, PySem.W.KatTups.cons ho hc hd rfl h1, congrArg (· + 1) h2, fun f hf => ?_⟩
        rcases List.mem_cons.mp hf with z | z
        · exact ⟨x, tk, z⟩
        · exact h3 f z
theorem paths_sortable {a : Addr} {vs : List Value} {k : Value → List Str} (h0 : 0 < vs.length) (hu : A.units + 1 < cLine) (hp : ∀ v ∈ vs, IsPth s.heap v (k v)) (ha : ∀ o, s.heap.get? a = some o → o.cls ≠ .type "tuple") :
    SrtO.SortableO prog w A s a vs fun v u => ltK (k v) (k u) := by
  intro h' keep
  have hp' : ∀ v ∈ vs, IsPth h' v (k v) := fun v hm => (hp v hm).keeps fun b o e c => keep b o (fun z => ha o (by rw [← z]; exact e) c) e
  obtain ⟨fs, h1, h2, h3⟩ := paths_firsts hp'
  refine ⟨tuples' true, fun Q E hq => ?_, paths_cmp (s := { s with heap := h' }) hu hp'⟩
  refine PySem.W.kat_kind (T := .type "str") h1 (by omega) (fun f hm => ?_) (by rfl) ?_
  · obtain ⟨x, t, rfl⟩ := h3 f hm
    exact fun A' Q' E' s' kk q => wpAny_typeOf (typeIs_str _ _ _) q
  · rw [show (Value.type "str" != Value.type "tuple") = true by decide +kernel]
    exact hq
end
end DL

namespace DL
open PySem PySem.Spec PyProof.Rows L2
/-! ### set(xs), xs a list of paths -/
/-- what the set has of the first i items -/
structure GotP (ks : List (Addr × List Key)) (i : Nat) (L : List (Addr × List Key)) : Prop where
  amid : ∀ p ∈ L, p ∈ ks.take i
  all : ∀ p ∈ ks.take i, p.2 ∈ L.map (·.2)
theorem GotP.zero (ks : List (Addr × List Key)) : GotP ks 0 [] := ⟨fun p h => (by cases h), fun p h => (by simp at h)⟩
theorem GotP.next {ks L L' : List (Addr × List Key)} {i : Nat} {x : Addr} {k : List Key} (g : GotP ks i L) (h : ks[i]? = some (x, k)) (ad : Added L L' x k) : GotP ks (i + 1) L' := by
  have e : ks.take (i + 1) = ks.take i ++ [(x, k)] := take_next h
  rcases ad with ⟨mv, rfl⟩ | ⟨mv, pm⟩
  · refine ⟨fun p hp => ?_, fun p hp => ?_⟩
    · rw [e]
      exact List.mem_append_left _ (g.amid p hp)
    · rw [e] at hp
      rcases List.mem_append.mp hp with z | z
      · exact g.all p z
      · rw [List.mem_singleton.mp z]
        exact mv
  · refine ⟨fun p hp => ?_, fun p hp => ?_⟩
    · rw [e]
      rcases List.mem_cons.mp (pm.mem_iff.mp hp) with z | z
      · rw [z]
        exact List.mem_append_right _ (List.mem_singleton.mpr rfl)
      · exact List.mem_append_left _ (g.amid p z)
    · rw [(pm.map (·.2)).mem_iff, List.map_cons]
      rw [e] at hp
      rcases List.mem_append.mp hp with z | z
      · exact List.mem_cons_of_mem _ (g.all p z)
      · rw [List.mem_singleton.mp z]
        exact List.mem_cons_self
/-- few keys that differ -/
def FewP (ks : List (Addr × List Key)) : Prop := ∀ L : List (List Key), L.Nodup → (∀ k ∈ L, k ∈ ks.map (·.2)) → L.length < 63
section
variable {P : Program} {w : World} {A : Around} {E : Value → Shared → Prop} {s : Shared}
theorem mt_keep {h h' : Heap} {k : List Key} {b : Addr} (x : MT P w h k b) (keyd : ∀ c o, h.get? c = some o → h'.get? c = some o) : MT P w h' k b := by
  obtain ⟨o, items, n, ho, r⟩ := x
  exact ⟨o, items, n, keyd b o ho, r⟩
theorem PSet.keep {h h' : Heap} {a : Addr} {L : List (Addr × List Key)} {es : Array (Int × Value)} {ep : Nat} {t : SetTable} (R : PSet P w h a L es ep t) (ha : ∀ o, h.get? a = some o → h'.get? a = some o) (ht : ∀ p ∈ L, MT P w h' p.2 p.1) : PSet P w h' a L es ep t := by
  obtain ⟨o, ho, r⟩ := R.ob
  exact ⟨⟨o, ha o ho, r⟩, R.rows, R.tab, R.nd, ht, R.room, R.few, R.led⟩
theorem pset_fresh {h : Heap} {a : Addr} (ho : h.get? a = some (setFresh w)) : PSet P w h a [] #[] 0 (.fresh 0 0 (!w.params.followText "set-order")) where
  ob := ⟨_, ho, ⟨rfl, rfl, rfl⟩, rfl⟩
  rows := rfl
  tab := ⟨List.Pairwise.nil, rfl, rfl, .inl rfl, fun x kx_ => (by cases kx_), fun i h j hi => (by simp at hi)⟩
  nd := List.nodup_nil
  tup := fun p hp => (by cases hp)
  room := by
    show 0 * 5 < 7 * 3
    decide
  few := by
    show 0 < 64
    decide
  led := by
    show _ ∨ (!w.params.followText "set-order") = true
    cases w.params.followText "set-order"
    · exact .inr rfl
    · exact .inl rfl
theorem set_update_paths {I : Addr} {fp wr : List Addr} {G : Array GenState → Array GenState → Prop} {n : Nat} {Pv : Nat → Value → Prop} {St : Nat → Shared → Prop} {R : Result → Shared → Prop}
    (W : WalksS P w A.in1 I fp wr G n Pv St) (S : Addr) (offS : S ∉ fp) (ks : List (Addr × List Key)) (hn : n = ks.length) (few0 : FewP ks) (valI : ∀ i v, Pv i v → ∃ p, ks[i]? = some p ∧ v = .ref p.1)
    (h0 : Heap) (keyd : ∀ p ∈ ks, MT P w h0 p.2 p.1) (noS : h0.get? S = none) (noW : ∀ b ∈ wr, h0.get? b = none) (room_ : A.in1.units < cLine) :
    ∀ (k i : Nat) (s : Shared), n - i = k → i ≤ n → St i s → (∀ b o, h0.get? b = some o → s.heap.get? b = some o) → (∃ L es ep t, PSet P w s.heap S L es ep t ∧ GotP ks i L) →
      (∀ s' L es ep t, Moved (S :: wr) G s s' → PSet P w s'.heap S L es ep t → GotP ks n L → (∀ b o, h0.get? b = some o → s'.heap.get? b = some o) → R (.ok (.ret .none)) s') →
      codeAny (model P w) A (.builtin "set.update.loop" ⟨[.ref S, .ref I], []⟩) R s := by
  have outS : S ∉ wr := fun h => offS (W.sub _ h)
  have wider : ∀ b ∈ wr, b ∈ S :: wr := fun b hb => List.mem_cons_of_mem _ hb
  have stay : ∀ {s s' : Shared}, Moved wr G s s' → (∀ b o, h0.get? b = some o → s.heap.get? b = some o) → ∀ b o, h0.get? b = some o → s'.heap.get? b = some o := fun mv old b o e =>
    mv.heap b o (fun hb => by rw [noW b hb] at e; cases e) (old b o e)
  intro k
  induction k with
  | zero =>
    intro i s left_ hi stand old ⟨L, es, ep, t, setS, g⟩ hR
    have hin : i = n := by omega
    subst hin
    refine codeAny_builtin F.entry_set_update_loop ?_
    rw [Around.under_plainId F.plain_set_update_loop _]
    show wpAny _ A.in1 (pyNext (.ref I) >>= _) _ _ s
    refine wpAny_bind (W.done s _ _ stand fun s' mv => ?_)
    show wpAny _ A.in1 (ret Value.none) _ _ s'
    have old1 := stay mv old
    have amid : ∀ p ∈ L, p ∈ ks := fun p hp => List.mem_of_mem_take (g.amid p hp)
    exact wpAny_pure (hR s' L es ep t (mv.mono wider) (setS.keep (fun o e => mv.heap S o outS e) fun p hp => mt_keep (keyd p (amid p hp)) old1) g old1)
  | succ k again_ =>
    intro i s left_ hi stand old ⟨L, es, ep, t, setS, g⟩ hR
    have more : i < n := by omega
    refine codeAny_builtin F.entry_set_update_loop ?_
    rw [Around.under_plainId F.plain_set_update_loop _]
    show wpAny _ A.in1 (pyNext (.ref I) >>= _) _ _ s
    refine wpAny_bind (W.item i s _ _ more stand fun v s' isV stand1 mv => ?_)
    obtain ⟨⟨px, pk⟩, hp, rfl⟩ := valI i v isV
    have old1 := stay mv old
    have amid : ∀ p ∈ L, p ∈ ks := fun p hp => List.mem_of_mem_take (g.amid p hp)
    have set1 : PSet P w s'.heap S L es ep t := setS.keep (fun o e => mv.heap S o outS e) fun q hq => mt_keep (keyd q (amid q hq)) old1
    have kx_ : MT P w s'.heap pk px := mt_keep (keyd (px, pk) (List.mem_of_getElem? hp)) old1
    have few : L.length + 1 < 64 := by
      have := few0 (L.map (·.2)) setS.nd fun k keyd => by
        obtain ⟨p, hp, rfl⟩ := List.mem_map.mp keyd
        exact List.mem_map.mpr ⟨p, amid p hp, rfl⟩
      rw [List.length_map] at this
      omega
    show wpAny _ A.in1 (holding [Value.ref px] (setAdd S (.ref px)) >>= _) _ _ s'
    refine wpAny_bind (wpAny_holding ?_)
    unfold setAdd
    refine wpAny_holding ?_
    refine wpAny_bind (wpAny_pyHash_tuple room_ kx_ ?_)
    refine PSet.add (s := { s' with toks := s'.toks + (pk.length + 1) }) set1 kx_ room_ few fun b h' L' es' ep' t' sameS setN ad => ?_
    have gN : GotP ks (i + 1) L' := g.next hp ad
    have oldN : ∀ b o, h0.get? b = some o → h'.get? b = some o := fun b o e => (sameS.2 b (fun z => by rw [z, noS] at e; cases e)).trans (old1 b o e)
    refine wpAny_pure ⟨plainId_quiet F.plain_set_update_loop _, again_ (i + 1) _ (by omega) more (W.frame _ s' _ _ stand1 (Nat.le_add_right _ _) fun b hb o e => ?_) oldN ⟨L', es', ep', t', setN, gN⟩ fun s'' L2 es2 ep2 t2 mvN setZ gZ oldZ => ?_⟩
    · rw [sameS.2 b (fun h : b = S => offS (by rw [← h]; exact hb))]; exact e
    · refine hR s'' L2 es2 ep2 t2 (Moved.trans W.gtrans ((mv.mono wider).then_heap (Nat.le_add_right _ _) fun b o hb e => ?_) mvN) setZ gZ oldZ
      rw [sameS.2 b (fun h : b = S => hb (by rw [h]; exact List.mem_cons_self))]; exact e
theorem call_set_paths {l : Addr} {items : Array Value} (ks : List (Addr × List Key)) {Q : Value → Shared → Prop} (calmA : A.handled = none) (isL : s.heap.IsList l items) (itsE : items.toList = ks.map fun p => Value.ref p.1)
    (keyd : ∀ p ∈ ks, MT P w s.heap p.2 p.1) (few0 : FewP ks) (room_ : A.units + 3 < cLine)
    (h : ∀ (h' : Heap) (tk : Nat) L es ep t, PSet P w h' s.heap.objs.size L es ep t → GotP ks ks.length L → (∀ b o, s.heap.get? b = some o → h'.get? b = some o) → Q (.ref s.heap.objs.size) { s with heap := h', toks := tk }) :
    wpAny (model P w) A (call (.type "set") [.ref l]) Q E s := by
  have szI : items.size = ks.length := by
    have q := congrArg List.length itsE
    rw [Array.length_toList, List.length_map] at q
    exact q
  obtain ⟨c, tl, mroS⟩ := F.called_set.mro
  have madeS := F.called_set.made
  have wider := F.called_set.sub
  refine wpAny_call (codeAny_of_tree ?_)
  show wpAny _ _ (callAny (.type "set") _) _ _ _
  refine wpAny_pure ⟨Code.quiet_builtin _ (by decide +kernel), codeAny_builtin F.entry_type_call ?_⟩
  rw [Around.under_plain (weight_type_call_type "set" [.ref l] []) rfl]
  have h1 := F.called_set.notType
  have creS := F.called_set.canCreate
  have tcS := F.typeCall_set_1 (.ref l)
  repeat (any_goals (first | assumption | wp_step))
  refine codeAny_mono (code_set_led1 (.ref l) (E := E) (Q₁ := fun obj ss1 => obj = .ref s.heap.objs.size ∧ ss1 = { s with heap := s.heap.push (setFresh w) }) ⟨rfl, rfl⟩) fun r ss1 backR => ?_
  cases r with
  | error e => exact backR
  | ok flo =>
    cases flo with
    | ret obj =>
      obtain ⟨rfl, rfl⟩ := backR
      have setS : (s.heap.push (setFresh w)).get? s.heap.objs.size = some (setFresh w) := Heap.get?_push_size _ rfl
      have tyS : Shared.TypeIs { s with heap := s.heap.push (setFresh w) } (.ref s.heap.objs.size) "set" := ⟨_, setS, rfl⟩
      have iniL := F.called_set.init.lookup
      have iniB := F.called_set.init.bind (.ref s.heap.objs.size)
      repeat (any_goals (first | assumption | wp_step))
      refine codeAny_mono (codeAny_call_builtin (R := wants (fun r ss2 => r = .none ∧ ∃ h' tk L es ep t, ss2 = { s with heap := h', toks := tk } ∧ PSet P w h' s.heap.objs.size L es ep t ∧ GotP ks ks.length L ∧
          (∀ b o, s.heap.get? b = some o → h'.get? b = some o)) E) F.called_set.init.plain F.entry_set_init (check_set_init_1 tyS ?_)) fun rr2 ss2 backR2 => ?_
      · obtain ⟨ol, atL, clL, nl, daL⟩ := isL
        obtain ⟨oc1, od1, oda1, os1⟩ := ol
        simp only at clL daL
        subst clL; subst daL
        have atL2 : (s.heap.push (setFresh w)).get? l = some { cls := .type "list", dict := od1, data := .seq items nl, slots := os1 } := Heap.get?_push_of_some _ atL
        have subS := F.sub_list_set
        have subF := F.sub_list_frozenset
        have neT : (Value.type "list" == Value.type "dict") = false := by decide
        have isL1 : (s.heap.push (setFresh w)).IsList l items := ⟨_, atL2, rfl, nl, rfl⟩
        unfold Builtin.«set.__init__» noKeywords Builtin.Frozenset.updateFrom
        generalize hPI : pyIter = PI
        wp_walk
        subst hPI
        refine wpAny_pyIter_list isL1 ?_
        refine wpAny_bind (wpAny_runValue ?_)
        have ltL : l < s.heap.objs.size := Heap.lt_size atL
        have calm3 : A.in1.in1.in1.handled = none := by simp [calmA]
        have hz1 : (s.heap.push (setFresh w)).objs.size = s.heap.objs.size + 1 := Heap.size_push ..
        have neI : l ≠ (s.heap.push (setFresh w)).objs.size := by
          rw [Heap.size_push]; exact Nat.ne_of_lt (Nat.lt_succ_of_lt ltL)
        have offS : s.heap.objs.size ∉ [(s.heap.push (setFresh w)).objs.size, l] := by
          rw [Heap.size_push]; simp only [List.mem_cons, List.mem_singleton, List.not_mem_nil, or_false, not_or]
          exact ⟨Nat.ne_of_lt (Nat.lt_succ_self _), Nat.ne_of_gt ltL⟩
        have valI : ∀ (i : Nat) (v : Value), items[i]? = some v → ∃ p, ks[i]? = some p ∧ v = .ref p.1 := fun i v hv => by
          have q : items.toList[i]? = some v := by rw [Array.getElem?_toList]; exact hv
          rw [itsE, List.getElem?_map] at q
          cases hq : ks[i]? with
          | none => rw [hq] at q; cases q
          | some p =>
            rw [hq] at q
            exact ⟨p, rfl, (Option.some.inj q).symm⟩
        have noneB : ∀ b, s.heap.objs.size ≤ b → s.heap.get? b = none := fun b hb => by
          cases q : s.heap.get? b with
          | none => rfl
          | some o => exact absurd (Nat.lt_of_lt_of_le (Heap.lt_size q) hb) (Nat.lt_irrefl _)
        refine set_update_paths ((Walks.list calm3 _ l neI items).toS) s.heap.objs.size
          offS ks szI few0 valI s.heap keyd (noneB _ (Nat.le_refl _)) (fun b hb => noneB b (by
            rw [List.mem_singleton.mp hb, Heap.size_push]
            exact Nat.le_succ _)) room_ (items.size - 0) 0 _ (by omega) (Nat.zero_le _)
          ⟨⟨_, Heap.get?_push_size _ rfl, rfl, rfl⟩, (isL1.push _)⟩ (fun b o e => Heap.get?_push_of_some _ (Heap.get?_push_of_some _ e)) ?noS ?hR
        case noS =>
          have getS : ((s.heap.push (setFresh w)).push { cls := .type "list_iterator", data := .fields #[.ref l, .int 0 0] }).get? s.heap.objs.size = some (setFresh w) := Heap.get?_push_of_some _ setS
          exact ⟨[], #[], 0, _, pset_fresh getS, GotP.zero ks⟩
        case hR =>
          intro s' L es ep t mv set1 gN old
          obtain ⟨h', gn2, d2, tk2, os2⟩ := s'
          have sameG : gn2 = s.gens := mv.gens
          have sameD : d2 = s.drawn := mv.drawn
          have sameO : os2 = s.os := mv.os
          subst sameG; subst sameD; subst sameO
          show wpAny _ _ _ _ _ _
          refine wpAny_pure ?_
          show wpAny _ _ (ret Value.none) _ _ _
          rw [szI] at gN
          exact wpAny_pure ⟨rfl, h', tk2, L, es, ep, t, rfl, set1, gN, old⟩
      · cases rr2 with
        | error e => exact backR2
        | ok flo2 =>
          cases flo2 with
          | ret r =>
            obtain ⟨rfl, h', tk, L, es, ep, t, rfl, set1, gN, left_⟩ := backR2
            repeat (any_goals (first | assumption | wp_step))
            exact h _ _ _ _ _ _ set1 gN left_
          | _ => exact backR2.elim
    | _ => exact backR.elim
end
end DL

namespace DL
open PySem PySem.Spec PyProof.Rows L2
/-! ### sorted(set(xs)), xs a list of paths -/
def strsK (k : List Key) : List Str := k.filterMap fun c => match c with | .inr x => some x | .inl _ => none
theorem strsK_of : ∀ ks : List Str, strsK (ks.map Sum.inr) = ks
  | [] => rfl
  | x :: ks => congrArg (x :: ·) (strsK_of ks)
theorem map_inj1 {α β : Type} {f : α → β} (hf : ∀ x y, f x = f y → x = y) : ∀ {a b : List α}, a.map f = b.map f → a = b
  | [], [], _ => rfl
  | [], _ :: _, e => by simp at e
  | _ :: _, [], e => by simp at e
  | x :: a, y :: b, e => by
    rw [List.map_cons, List.map_cons, List.cons.injEq] at e
    rw [hf x y e.1, map_inj1 hf e.2]
theorem lift_perm {α β : Type} {f : α → β} {a b : List β} (p : a.Perm b) : ∀ L : List α, L.map f = b → ∃ L' : List α, L'.Perm L ∧ L'.map f = a := by
  induction p with
  | nil => exact fun L e => ⟨L, .refl _, e⟩
  | cons x _ ih =>
    intro L e
    cases L with
    | nil => cases e
    | cons y L =>
      rw [List.map_cons, List.cons.injEq] at e
      obtain ⟨L', h1, h2⟩ := ih L e.2
      exact ⟨y :: L', h1.cons _, by rw [List.map_cons, h2, e.1]⟩
  | swap x y l =>
    intro L e
    cases L with
    | nil => cases e
    | cons a L =>
      cases L with
      | nil => simp at e
      | cons b L =>
        simp only [List.map_cons, List.cons.injEq] at e
        exact ⟨b :: a :: L, .swap _ _ _, by simp [e.1, e.2.1, e.2.2]⟩
  | trans _ _ i1 i2 =>
    intro L e
    obtain ⟨L1, h1, h2⟩ := i2 L e
    obtain ⟨L2, h3, h4⟩ := i1 L1 h2
    exact ⟨L2, h3.trans h1, h4⟩
section
variable {P : Program} {w : World} {A : Around} {E : Value → Shared → Prop} {s : Shared} {a : Addr} {L : List (Addr × List Key)} {es : Array (Int × Value)} {ep : Nat} {t : SetTable}
abbrev refV (p : Addr × List Key) : Value := .ref p.1
/-- the key of what a reference is to -/
noncomputable def kOf (L : List (Addr × List Key)) (v : Value) : List Str := open Classical in if h : ∃ p ∈ L, refV p = v then strsK h.choose.2 else []
theorem kOf_at (R : PSet P w s.heap a L es ep t) {p : Addr × List Key} (hp : p ∈ L) : kOf L (refV p) = strsK p.2 := by
  have h : ∃ q ∈ L, refV q = refV p := ⟨p, hp, rfl⟩
  unfold kOf
  rw [dif_pos h]
  obtain ⟨h1, h2⟩ := h.choose_spec
  have m1 := R.tup _ h1
  have m2 := R.tup _ hp
  have e : h.choose.1 = p.1 := Value.ref.inj h2
  rw [e] at m1
  rw [m1.inj m2]
theorem mt_pth {h : Heap} {x : Addr} {ks : List Str} (m : MT P w h (ks.map Sum.inr) x) (ne : ks ≠ []) : IsPth h (.ref x) ks := by
  obtain ⟨o, its, n, ho, hc, hd, hi⟩ := m
  refine ⟨x, o, its, n, rfl, ho, hc, hd, ?_, ne⟩
  have go : ∀ {l : List Str} {us : List Value}, PySem.ItemsAre (mixKind P w) (l.map Sum.inr) us → Vals (l.map V.str) us := fun {l} => by
    induction l with
    | nil =>
      intro us z
      cases z
      exact .nil
    | cons c l ih =>
      intro us z
      cases z with
      | cons z1 z2 => exact .cons (L2.relV_key (k := Sum.inr c) z1) (ih z2)
  exact go hi
theorem sorted_pset (R : PSet P w s.heap a L es ep t) (hh : A.handled = none) (hu : A.units + 8 < cLine) (ne : ∀ p ∈ L, ∃ ks : List Str, ks ≠ [] ∧ p.2 = ks.map Sum.inr) {Q : Value → Shared → Prop}
    (hQ : ∀ s1 p n (L' : List (Addr × List Key)), (∀ b o, s.heap.get? b = some o → s1.heap.get? b = some o) → s1.gens = s.gens → s1.os = s.os → s.heap.objs.size ≤ p → s1.heap.get? p = some (seqObj "list" (L'.map refV).toArray n) → L'.Perm L →
      L'.Pairwise (fun x y => ltK (strsK y.2) (strsK x.2) = false) → Q (.ref p) s1) : wpAny (model P w) A (call (.builtin "sorted") [.ref a]) Q E s := by
  obtain ⟨o, ho, hex, hd⟩ := R.ob
  have few := R.few
  have sz := rows_size R.rows
  refine Calls.call_function_entry kind_sorted plain_sorted entry_sorted (args_sorted1 _) ?_
  unfold Builtin.«sorted»
  refine wpAny_bind (m := checkCount "sorted" 1 1 _) (wpAny_pure (wpAny_bind (collect_set (A := A.in1) hh ⟨o, ho, hex.1, hd⟩ R.fits (by unfold scanBound; omega) R.tab.ris R.led fun s1 vs keep big gens oss pm => ?_)))
  have pm' : vs.Perm (L.map refV) := by
    have e : es.toList.map (·.2) = L.map refV := by
      rw [R.rows, rowsK, List.map_map]
      rfl
    rwa [e] at pm
  have vlen : vs.length = L.length := by rw [pm'.length_eq, List.length_map]
  refine wpAny_bind (wpAny_newList ?_ (by rw [sizeLine_eq]; omega))
  have there : (s1.heap.push (seqObj "list" vs.toArray 0)).get? s1.heap.objs.size = some (seqObj "list" vs.toArray 0) := Heap.get?_push_size _ rfl
  have up : ∀ b u, s.heap.get? b = some u → b ≠ s1.heap.objs.size ∧ (s1.heap.push (seqObj "list" vs.toArray 0)).get? b = some u := fun b u e => ⟨Nat.ne_of_lt (Heap.lt_size (keep b u e)), Heap.get?_push_of_some _ (keep b u e)⟩
  have swo : SrtO.Swo fun v u : Value => ltK (kOf L v) (kOf L u) := ⟨fun x y h => ltK_swo.asym _ _ h, fun x y z h1 h2 => ltK_swo.tr _ _ _ h1 h2⟩
  show wpAny _ _ _ _ _ { s1 with heap := s1.heap.push (seqObj "list" vs.toArray 0) }
  refine wpAny_bind (wpAny_holding (wpAny_call_entry slot_list_sort ⟨_, there, rfl⟩ entry_list_sort (SrtO.list_sort_ord swo there (by rw [sizeLine_eq]; omega) (fun h2 => ?_) fun out hs hb => ⟨_, rfl, ?_⟩) (args_list_sort _)))
  · refine paths_sortable (k := kOf L) (by omega) (by show A.in1.in1.units + 1 < cLine; unfold Around.in1; simp; omega) (fun v hv => ?_) fun u e c => ?_
    · obtain ⟨p, hp, rfl⟩ := List.mem_map.mp (pm'.mem_iff.mp hv)
      rw [kOf_at R hp]
      obtain ⟨ks, n0, ek⟩ := ne p hp
      have m := mt_keep (R.tup p hp) fun b u e => (up b u e).2
      rw [ek] at m ⊢
      rw [strsK_of]
      exact mt_pth m n0
    · have e' : some u = some (seqObj "list" vs.toArray 0) := e.symm.trans there
      cases e'
      exact absurd (Value.type.inj c) (by decide)
  · obtain ⟨L', q1, q2⟩ := lift_perm (hb.perm.trans pm') L rfl
    obtain ⟨n, hn⟩ := sortedHeap_at (vs := vs) (out := out.toArray) there
    subst q2
    have srt : L'.Pairwise (fun x y => ltK (strsK y.2) (strsK x.2) = false) := by
      refine List.Pairwise.imp_of_mem (fun {x y} hx hy h => ?_) (List.pairwise_map.mp hs)
      rw [← kOf_at R (q1.mem_iff.mp hx), ← kOf_at R (q1.mem_iff.mp hy)]
      exact h
    refine wpAny_pure ⟨_, rfl, hQ { s1 with heap := _ } s1.heap.objs.size n L' (fun b u e => ?_) gens oss big hn q1 srt⟩
    obtain ⟨b1, b2⟩ := up b u e
    exact (sortedHeap_old b1 (Heap.lt_size b2)).trans b2
end
section
variable {X : Cx}
def rSetP (K : PySem.W.Frag) (P : Program) (w : World) : List V → Hp → VK → Prop := fun xs H Q => ∃ (l : Addr) (ks : List (Addr × List Key)), xs = [V.ref l] ∧ SqL K H l (ks.map fun p => V.ref p.1) ∧ (∀ p ∈ ks, SqT K H p.1 (p.2.map kV)) ∧ FewP ks ∧
  ∀ a L, H a = none → (∀ p ∈ L, p ∈ ks) → (∀ p ∈ ks, p.2 ∈ L.map (·.2)) → (L.map (·.2)).Nodup → Q (.ref a) (upd H a (PSO P w a L))
theorem refs_vals : ∀ {ks : List (Addr × List Key)} {us : List Value}, Vals (ks.map fun p => V.ref p.1) us → us = ks.map refV
  | [], _, .nil => rfl
  | p :: ks, _, .cons r t => by
    cases (show _ = Value.ref p.1 from r)
    rw [refs_vals t]
    rfl
theorem cr_setP (hc : X.calm = true) (hu : X.A.units + 8 < cLine) : CallR X (.type "set") (rSetP X.K X.prog X.w) := by
  intro pins s σ H vs us Q I r ⟨l, ks, e, hl, hk, few, q⟩
  subst e
  rw [Vals.ref1 r]
  obtain ⟨its, rv, pl, _⟩ := I.list hl
  have free : H s.heap.objs.size = none := I.hok.fresh (Nat.le_refl _)
  refine call_set_paths ks (I.ok.hd hc) pl.isList (by simpa using refs_vals rv) (fun p hp => mt_of I (hk p hp)) few (by omega) fun h1 tk L es ep t R g keep => ?_
  refine ⟨.ref s.heap.objs.size, _, I.laid (t' := tk) keep (Nat.le_refl _) (pso_ok R.ps0), rfl, q _ L free (fun p hp => List.mem_of_mem_take (g.amid p hp)) (fun p hp => g.all p (by rw [List.take_length]; exact hp)) R.nd⟩
def rSortPS (K : PySem.W.Frag) (P : Program) (w : World) : List V → Hp → VK → Prop := fun vs H Q => ∃ (a : Addr) (L : List (Addr × List Key)), vs = [V.ref a] ∧ H a = some (PSO P w a L) ∧ (∀ p ∈ L, SqT K H p.1 (p.2.map kV)) ∧ (∀ p ∈ L, ∃ ks : List Str, ks ≠ [] ∧ p.2 = ks.map Sum.inr) ∧
  ∀ (L' : List (Addr × List Key)) (p : Addr), L'.Perm L → L'.Pairwise (fun x y => ltK (strsK y.2) (strsK x.2) = false) → H p = none → Q (.ref p) (upd H p (.lst (L'.map fun q => V.ref q.1)))
theorem vals_refs2 : ∀ L : List (Addr × List Key), Vals (L.map fun p => V.ref p.1) (L.map refV)
  | [] => .nil
  | _ :: L => .cons rfl (vals_refs2 L)
theorem cr_sortPS (hc : X.calm = true) (hu : X.A.units + 8 < cLine) : CallR X (.builtin "sorted") (rSortPS X.K X.prog X.w) := by
  intro pins s σ H vs us Q I r ⟨a, L, e, ha, hk, ne, q⟩
  subst e
  rw [Vals.ref1 r]
  have R0 : PS0 X.prog X.w s.heap a L := (I.hok a _ ha).1
  obtain ⟨es, ep, t, R⟩ := R0.full fun p hp => mt_of I (hk p hp)
  refine sorted_pset R (I.ok.hd hc) hu ne fun s1 p n L' keep gens oss big there pm srt => ?_
  have few : L'.length < 64 := by rw [pm.length_eq]; exact R.few
  have free : H p = none := I.hok.fresh big
  have J : Inv X pins σ (upd H p (.lst (L'.map fun q => V.ref q.1))) { s with heap := s1.heap, gens := s1.gens, drawn := s1.drawn, toks := s1.toks } :=
    I.call (ch := []) (Un.laid keep big free) (I.hok.laid keep big ⟨by rw [List.length_map, sizeLine_eq]; omega, L'.map refV, n, vals_refs2 L', there⟩) (by rw [gens]; exact I.bare) fun _ z => nomatch z
  have e1 : s1 = { s with heap := s1.heap, gens := s1.gens, drawn := s1.drawn, toks := s1.toks } := by
    cases s1
    cases s
    cases oss
    rfl
  rw [e1]
  exact ⟨.ref p, _, J, rfl, q L' p pm srt free⟩
end
/-! of data -/
def pD (ks : List Str) : D := .tup (ks.map .str)
theorem pD_inj {a b : List Str} (h : pD a = pD b) : a = b := by
  have h1 : a.map D.str = b.map D.str := by
    have := h
    unfold pD at this
    exact D.tup.inj this
  exact map_inj1 (fun x y e => D.str.inj e) h1
theorem keyD_inr (ks : List Str) : (ks.map Sum.inr : List Key).map keyD = ks.map D.str := by rw [List.map_map]; rfl
theorem kV_inr (ks : List Str) : (ks.map Sum.inr : List Key).map kV = ks.map V.str := by rw [List.map_map]; rfl
section
variable {C : Cq} {X : Cx}
def dSortSet (a : DE) : DE := fun Γ k => a Γ fun d => ∃ ps : List (List Str), d = .lst (ps.map pD) ∧ (∀ p ∈ ps, p ≠ []) ∧ (∀ L : List (List Str), L.Nodup → (∀ x ∈ L, x ∈ ps) → L.length < 63) ∧
  ∀ out : List (List Str), out.Nodup → (∀ x, x ∈ out ↔ x ∈ ps) → out.Pairwise (fun x y => ltK y x = false) → k (.lst (out.map pD))
/-- the addresses of the paths -/
theorem paths_at {K : PySem.W.Frag} {H : Hp} : ∀ {vs : List V} {ps : List (List Str)}, RpA K H vs (ps.map pD) → ∃ ks : List (Addr × List Key), vs = ks.map (fun p => V.ref p.1) ∧ ks.map (·.2) = ps.map (fun p => p.map Sum.inr) ∧ ∀ p ∈ ks, H p.1 = some (.tup (p.2.map kV))
  | [], [], _ => ⟨[], rfl, rfl, fun p h => by cases h⟩
  | [], _ :: _, h => by
    rw [List.map_cons] at h
    cases h
  | _ :: _, [], h => by
    rw [List.map_nil] at h
    cases h
  | v :: vs, p :: ps, h => by
    rw [List.map_cons] at h
    cases h with
    | cons h1 h2 =>
      obtain ⟨ks, e1, e2, e3⟩ := paths_at h2
      unfold pD at h1
      cases h1 with
      | @tup a xs _ e r =>
        rw [strsV_of r] at e
        refine ⟨(a, p.map Sum.inr) :: ks, by rw [List.map_cons, e1], by rw [List.map_cons, List.map_cons, e2], fun q hq => ?_⟩
        rcases List.mem_cons.mp hq with z | z
        · subst z
          rw [kV_inr]
          exact e
        · exact e3 q z
theorem paths_rp {K : PySem.W.Frag} {H : Hp} : ∀ {ks : List (Addr × List Key)} {ps : List (List Str)}, ks.map (·.2) = ps.map (fun p => p.map Sum.inr) → (∀ p ∈ ks, H p.1 = some (.tup (p.2.map kV))) → RpA K H (ks.map fun p => V.ref p.1) (ps.map pD)
  | [], [], _, _ => .nil
  | [], _ :: _, e, _ => by simp at e
  | _ :: _, [], e, _ => by simp at e
  | q :: ks, p :: ps, e, h => by
    simp only [List.map_cons, List.cons.injEq] at e
    rw [List.map_cons, List.map_cons]
    refine .cons (.tup (h q List.mem_cons_self) ?_) (paths_rp e.2 fun x hx => h x (List.mem_cons_of_mem _ hx))
    rw [e.1, ← keyD_inr]
    exact keys_rp _
theorem ed_sortSet {e : Expr} {a : DE} {p p2 q pos : Pos} (hk : C.K = X.K) (hc : X.calm = true) (hu : X.A.units + 8 < cLine) (hg : Gl X "sorted") (hm : X.mg "sorted" = none) (hg2 : Gl X "set") (hm2 : X.mg "set" = none) (ha : ED C X e a)
    (he : starEach [e] X.env = (false, eval e X.env) :: starEach [] X.env := by rfl) (hpl : (backTo q (starEach [] X.env)).any (·.1) = false := by rfl)
    (he2 : starEach [.Call (.Name "set" p2) [e] [] q] X.env = (false, eval (.Call (.Name "set" p2) [e] [] q) X.env) :: starEach [] X.env := by rfl) (hpl2 : (backTo pos (starEach [] X.env)).any (·.1) = false := by rfl) :
    ED C X (.Call (.Name "sorted" p) [.Call (.Name "set" p2) [e] [] q] [] pos) (dSortSet a) :=
  ⟨(pe_callB (cr_sortPS hc hu) hg hm (by decide +kernel) (pa_cons (pe_callTy (cr_setP hc hu) hg2 hm2 (by decide +kernel) (pa_cons ha.pe pa_nil he) (by decide) (by decide) he hpl) pa_nil he2) (by decide) (by decide) he2 hpl2).weak fun σ H Q ⟨Γ, Ts, κ, r, h, ans⟩ => ⟨Γ, Ts, _, r, h, fun v H1 d ⟨ps, h1, n0, few, hq⟩ r1 => by
    subst h1
    have t := r1.top
    cases t with
    | @lst l xs _ e1 r2 =>
      obtain ⟨ks, e2, e3, e4⟩ := paths_at r2
      subst e2
      have full : ∀ p ∈ ks, H1 p.1 = some (.tup (p.2.map kV)) := fun p hp => hid_full _ _ (e4 p hp)
      have kp : ∀ {q : Addr × List Key}, q ∈ ks → ∃ p ∈ ps, q.2 = p.map Sum.inr := fun {q} hq => by
        have : q.2 ∈ ks.map (·.2) := List.mem_map.mpr ⟨q, hq, rfl⟩
        rw [e3] at this
        obtain ⟨p, hp, e⟩ := List.mem_map.mp this
        exact ⟨p, hp, e.symm⟩
      have inj : ∀ {a b : List Str}, (a.map Sum.inr : List Key) = b.map Sum.inr → a = b := fun {a b} e => map_inj1 (fun x y e => Sum.inr.inj e) e
      refine ⟨l, ks, rfl, by rw [← hk]; exact SqL.of (hid_full _ _ e1), fun p hp => by rw [← hk]; exact SqT.of (full p hp), fun L nd sub => ?_, fun s L ns subL allL ndL => ?_⟩
      · have back : ∃ M : List (List Str), M.map (fun p => (p.map Sum.inr : List Key)) = L ∧ ∀ x ∈ M, x ∈ ps := by
          clear nd
          induction L with
          | nil => exact ⟨[], rfl, fun x h => by cases h⟩
          | cons k L ih =>
            obtain ⟨M, m1, m2⟩ := ih fun k hk => sub k (List.mem_cons_of_mem _ hk)
            have := sub k List.mem_cons_self
            rw [e3] at this
            obtain ⟨p, hp, e⟩ := List.mem_map.mp this
            exact ⟨p :: M, by rw [List.map_cons, m1, e], fun x hx => by
              rcases List.mem_cons.mp hx with z | z
              · rw [z]; exact hp
              · exact m2 x z⟩
        obtain ⟨M, m1, m2⟩ := back
        rw [← m1, List.length_map]
        refine few M ?_ m2
        rw [← m1] at nd
        exact List.Pairwise.of_map _ (fun _ _ hne e => hne (congrArg _ e)) nd
      · refine ⟨s, L, rfl, upd_same, fun p hp => ?_, fun p hp => ?_, fun L' q pm srt nq => ?_⟩
        · rw [← hk]
          exact SqT.of (by rw [upd_ne (ne_of_none (full p (subL p hp)) ns)]; exact full p (subL p hp))
        · obtain ⟨x, hx, ex⟩ := kp (subL p hp)
          exact ⟨x, n0 x hx, ex⟩
        · have r3 : RS C σ (upd H1 s (PSO X.prog X.w s L)) Γ Ts := r1.drop.grow (upd_keep ns)
          -- the paths of the answer
          have lift : ∃ out : List (List Str), L'.map (·.2) = out.map fun p => (p.map Sum.inr : List Key) := by
            have sub' : ∀ x ∈ L', x ∈ ks := fun x hx => subL x (pm.mem_iff.mp hx)
            clear pm srt
            induction L' with
            | nil => exact ⟨[], rfl⟩
            | cons x L' ih =>
              obtain ⟨out, ho⟩ := ih fun y hy => sub' y (List.mem_cons_of_mem _ hy)
              obtain ⟨p, _, e⟩ := kp (sub' x List.mem_cons_self)
              exact ⟨p :: out, by rw [List.map_cons, List.map_cons, ho, e]⟩
          obtain ⟨out, ho⟩ := lift
          have memO : ∀ x, x ∈ out ↔ x ∈ ps := fun x => by
            have h1 : x ∈ out ↔ (x.map Sum.inr : List Key) ∈ L'.map (·.2) := by
              rw [ho]
              exact ⟨fun h => List.mem_map.mpr ⟨x, h, rfl⟩, fun h => by
                obtain ⟨y, hy, e⟩ := List.mem_map.mp h
                rw [← inj e]
                exact hy⟩
            have h2 : x ∈ ps ↔ (x.map Sum.inr : List Key) ∈ ks.map (·.2) := by
              rw [e3]
              exact ⟨fun h => List.mem_map.mpr ⟨x, h, rfl⟩, fun h => by
                obtain ⟨y, hy, e⟩ := List.mem_map.mp h
                rw [← inj e]
                exact hy⟩
            rw [h1, h2, (pm.map (·.2)).mem_iff]
            refine ⟨fun h => ?_, fun h => ?_⟩
            · obtain ⟨y, hy, e⟩ := List.mem_map.mp h
              exact List.mem_map.mpr ⟨y, subL y hy, e⟩
            · obtain ⟨y, hy, e⟩ := List.mem_map.mp h
              rw [← e]
              exact allL y hy
          have ndO : out.Nodup := by
            have z : (L'.map (·.2)).Nodup := (pm.map (·.2)).nodup_iff.mpr ndL
            rw [ho] at z
            exact List.Pairwise.of_map _ (fun _ _ hne e => hne (congrArg _ e)) z
          have srtO : out.Pairwise (fun x y => ltK y x = false) := by
            have z : (L'.map (·.2)).Pairwise (fun x y => ltK (strsK y) (strsK x) = false) := List.pairwise_map.mpr srt
            rw [ho] at z
            refine (List.pairwise_map.mp z).imp fun {x y} h => ?_
            rw [strsK_of, strsK_of] at h
            exact h
          refine ans _ _ _ (hq out ndO memO srtO) (r3.newL nq (paths_rp ho fun x hx => ?_))
          have hx' := subL x (pm.mem_iff.mp hx)
          obtain ⟨no, e⟩ := hid_in (e4 x hx')
          exact hid_mk no (by rw [upd_ne (ne_of_none e ns)]; exact e)⟩⟩
end
end DL

namespace DL
open PySem PySem.Spec PyProof.Rows L2
section
variable {C : Cq} {X : Cx}
/-! ### d[k] = v, d one's own, its keys tuples -/
def sPutT (i : Nat) (a b : DE) : DS := fun O Γ => b Γ fun d => ∃ kds, Γ[i]? = some (some (.own (.dT kds))) ∧ kds.length < 1000000 ∧ a Γ fun y => ∃ j : List Key, y = .tup (j.map keyD) ∧ O.nx (Γ.set i (some (.own (.dT (putG kds j d)))))
theorem top_dT {K : PySem.W.Frag} {H R : Hp} {a : Addr} {kds : List (List Key × D)} (t : Top K H R a (.dT kds)) : ∃ kvs, H a = some (.dT kvs) ∧ kvs.map (·.1) = kds.map (·.1) ∧ RpA K R (kvs.map (·.2)) (kds.map (·.2)) := by
  cases t with
  | dT e k r => exact ⟨_, e, k, r⟩
theorem sd_putT (i : Nat) {x : Str} {e e2 : Expr} {a b : DE} {xp tp pos : Pos} (hu : X.A.units + 65 < cLine) (hN : X.N[i]? = some x := by rfl) (he : ED C X e a) (he2 : ED C X e2 b) (hv : Vis X.env.scope x := by first | exact Or.inl rfl | exact Or.inr (Or.inl rfl) | exact Or.inr (Or.inr rfl)) (hd : (x == ("__debug__" : Str)) = false := by decide) (hcd : (x == ("__classdict__" : Str)) = false := by decide)
    (hs : swapsWith e2 (some (.Subscript (.Name x xp) e tp)) pos.line X.env = pure false := by rfl) : SD C X (.Assign [.Subscript (.Name x xp) e tp] e2 pos) (sPutT i a b) :=
  ⟨(ps_dput (by omega) (pe_var hN hv hd hcd) he.pe he2.pe hs).weak fun D' σ H ⟨Γ, Ts, O, r, h, n, _⟩ => ⟨Γ, Ts, _, r, h, fun v H1 d ⟨kds, h0, hl, hd⟩ r1 => by
    obtain ⟨l, e1, _, _, _⟩ := r1.own h0
    refine ⟨_, e1, Γ, _, _, r1, hd, fun w H2 y ⟨j, ey, hk⟩ r2 => ?_⟩
    subst ey
    obtain ⟨xa, rfl, ex⟩ := key_at r2.top1
    obtain ⟨l', e1', t1, wr, _⟩ := r2.drop.drop.own h0
    rw [e1] at e1'
    cases e1'
    obtain ⟨kvs, g1, g2, g3⟩ := top_dT t1
    have tv := r2.drop.top
    refine ⟨l, _, rfl, DPut.t g1 ex ?_, n _ _ _ hk (wr _ _ (.dT upd_same (put_keys g2 j v d) (put_vals g2 g3 j tv)))⟩
    have := congrArg List.length g2
    rw [List.length_map, List.length_map] at this
    have := sizeL
    omega⟩⟩
/-! ### while -/
def sWhile (tc : DT) (tb : DS) : DS := fun O Γ => ∃ W : Nat → G → Prop, (∃ m, W m Γ) ∧ ∀ m Γ, W m Γ → tc Γ fun b => if b = true then tb { nx := fun Γ' => ∃ m', m' < m ∧ W m' Γ', rt := O.rt, bk := O.nx, ct := fun Γ' => ∃ m', m' < m ∧ W m' Γ' } Γ else O.nx Γ
theorem sd_while {c : Expr} {body : List Stmt} {tc : DT} {tb : DS} {pos : Pos} (hp : PassesOwn (model X.prog X.w) X.A X.env X.xe) (hc : TD C X c tc) (hb : SSD C X body tb) : SD C X (.While c body [] pos) (sWhile tc tb) :=
  ⟨(ps_while hp hc.pt hb.pss).weak fun D' σ H ⟨Γ, Ts, O, r, ⟨W, ⟨m0, w0⟩, step⟩, n, q, b, ct⟩ => by
    refine ⟨fun m σ H => ∃ Γ, RS C σ H Γ Ts ∧ W m Γ, ⟨m0, Γ, r, w0⟩, ?_⟩
    rintro m σ H ⟨Γ1, r1, w1⟩
    refine ⟨Γ1, Ts, _, r1, step m Γ1 w1, fun c H1 hk r2 => ?_⟩
    cases c with
    | true => exact ⟨fun σ' H' => ∃ m', m' < m ∧ ∃ Γ, RS C σ' H' Γ Ts ∧ W m' Γ, fun σ' H' z => z, Γ1, Ts, _, r2, hk, fun σ' H' Γ' ⟨m', h1, h2⟩ r3 => ⟨m', h1, Γ', r3, h2⟩, q, fun σ' H' Γ' hk r3 => n σ' H' Γ' hk r3, fun σ' H' Γ' ⟨m', h1, h2⟩ r3 => ⟨m', h1, Γ', r3, h2⟩⟩
    | false => exact n σ H1 Γ1 hk r2⟩
/-! ### one's own dicts seen as data, for what gives no dict -/
def ODict (Γ : G) : Prop := ∀ d, some (B.own d) ∈ Γ → (∃ kds, d = .dT kds) ∨ ∃ kds, d = .dK kds
end
mutual
theorem Rp.bare2 {K : PySem.W.Frag} {S S2 : Addr → Prop} {H : Hp} (h : ∀ a, S2 a → S a ∨ ∃ x, Dct x ∧ H a = some x) : ∀ {v : V} {d : D}, Rp K (hid S H) v d → d.flat = true → Rp K (hid S2 H) v d
  | _, _, .non, _ => .non
  | _, _, .bl b, _ => .bl b
  | _, _, .int i, _ => .int i
  | _, _, .str x, _ => .str x
  | _, _, .lst e r, f => by
    obtain ⟨n, e⟩ := hid_in e
    refine .lst (hid_mk (fun z => ?_) e) (RpA.bare2 h r (by simpa [D.flat] using f))
    rcases h _ z with z | ⟨x, hx, z⟩
    · exact n z
    · rw [e] at z
      cases z
      exact hx
  | _, _, .tup e r, f => by
    obtain ⟨n, e⟩ := hid_in e
    refine .tup (hid_mk (fun z => ?_) e) (RpA.bare2 h r (by simpa [D.flat] using f))
    rcases h _ z with z | ⟨x, hx, z⟩
    · exact n z
    · rw [e] at z
      cases z
      exact hx
  | _, _, .dK _ _ _, f => by simp [D.flat] at f
  | _, _, .dT _ _ _, f => by simp [D.flat] at f
  | _, _, .obj _ _ _ _, f => by simp [D.flat] at f
  | _, _, .slf _ _ _ _, f => by simp [D.flat] at f
  | _, _, .emp _, f => by simp [D.flat] at f
theorem RpA.bare2 {K : PySem.W.Frag} {S S2 : Addr → Prop} {H : Hp} (h : ∀ a, S2 a → S a ∨ ∃ x, Dct x ∧ H a = some x) : ∀ {vs : List V} {ds : List D}, RpA K (hid S H) vs ds → flatA ds = true → RpA K (hid S2 H) vs ds
  | _, _, .nil, _ => .nil
  | _, _, .cons r t, f => by
    simp only [flatA, Bool.and_eq_true] at f
    exact .cons (Rp.bare2 h r f.1) (RpA.bare2 h t f.2)
end
section
variable {C : Cq} {X : Cx}
def dViewF (t : DE) : DE := fun Γ k => ODict Γ ∧ t (Γ.map viewB) fun d => d.flat = true ∧ k d
theorem pairs_in : ∀ {σ : L2.St} {Γ : G} {v : V} {b : B}, (v, b) ∈ pairs σ Γ → some b ∈ Γ
  | [], _, _, _, h => by cases h
  | none :: σ, [], _, _, h => by cases h
  | some x :: σ, [], _, _, h => by cases h
  | none :: σ, y :: Γ, v, b, h => List.mem_cons_of_mem _ (pairs_in (σ := σ) h)
  | some x :: σ, none :: Γ, v, b, h => List.mem_cons_of_mem _ (pairs_in (σ := σ) h)
  | some x :: σ, some y :: Γ, v, b, h => by
    rcases List.mem_cons.mp (show (v, b) ∈ (x, y) :: pairs σ Γ from h) with z | z
    · cases z
      exact List.mem_cons_self
    · exact List.mem_cons_of_mem _ (pairs_in z)
theorem ed_viewF {e : Expr} {t : DE} (h : ∀ (S0 : Addr → Prop) (H0 : Hp), ED ⟨C.K, C.bg, C.bl, S0, H0⟩ X e t) : ED C X e (dViewF t) :=
  ⟨⟨fun pins s σ H Q I ⟨Γ, Ts, k, r, ⟨od, ht⟩, ans⟩ => (h (fun a => C.S0 a ∨ a ∈ owns Ts) H).pe.run pins s σ H Q I ⟨Γ.map viewB, [], _, r.view, ht, fun v H' d ⟨hp, hk⟩ r' => by
    refine ans v H' d hk ((r.step (fun a o n e => r'.rel.same a o n e) fun b e => (r'.rel.bag b e).2.2).push ?_)
    have tp := r'.top
    refine Rp.bare2 (fun a z => ?_) tp hp
    rcases z with z | z
    · exact .inl (.inl (.inl z))
    · rw [owns_append] at z
      rcases List.mem_append.mp z with z | z
      · exact .inl (.inl (.inr z))
      · obtain ⟨d', m⟩ := owns_mem z
        obtain ⟨b, eb, t⟩ := r.rel.ok _ (List.mem_append_right _ m)
        cases eb
        have nb : C.bg ≠ some a := r.rel.nown (by rw [owns_append]; exact List.mem_append_right _ z)
        rcases od d' (pairs_in m) with ⟨kds, rfl⟩ | ⟨kds, rfl⟩
        · cases t with
          | dT e _ _ => exact .inr ⟨_, show Dct (.dT _) from True.intro, r'.rel.same a _ nb e⟩
        · cases t with
          | dK e _ _ => exact .inr ⟨_, show Dct (.dK _) from True.intro, r'.rel.same a _ nb e⟩⟩⟩⟩
end
/-! ### sorted of paths as data -/
def rSortPaths (K : PySem.W.Frag) : List V → Hp → VK → Prop := fun vs H Q => ∃ (a : Addr) (ks : List (Addr × List Str)), vs = [.ref a] ∧ SqL K H a (ks.map fun p => V.ref p.1) ∧ (∀ p ∈ ks, p.2 ≠ [] ∧ H p.1 = some (.tup (p.2.map V.str))) ∧
  ∀ (ls : List (Addr × List Str)) p, ls.Pairwise (fun x y => ltK y.2 x.2 = false) → ls.Perm ks → H p = none → Q (.ref p) (upd H p (.lst (ls.map fun p => V.ref p.1)))
section
variable {X : Cx}
def strsAt (H : Hp) : Value → List Str
  | .ref p => match H p with
    | some (.tup us) => us.filterMap fun u => match u with | .str x => some x | _ => none
    | _ => []
  | _ => []
theorem strsAt_of {H : Hp} {p : Addr} {ks : List Str} (h : H p = some (.tup (ks.map V.str))) : strsAt H (.ref p) = ks := by
  simp only [strsAt, h]
  exact strs_back ks
theorem refs_valsS : ∀ {ks : List (Addr × List Str)} {us : List Value}, Vals (ks.map fun p => V.ref p.1) us → us = ks.map fun p => Value.ref p.1
  | [], _, .nil => rfl
  | p :: ks, _, .cons r t => by
    cases (show _ = Value.ref p.1 from r)
    rw [refs_valsS t]
    rfl
theorem vals_refsS : ∀ L : List (Addr × List Str), Vals (L.map fun p => V.ref p.1) (L.map fun p => Value.ref p.1)
  | [] => .nil
  | _ :: L => .cons rfl (vals_refsS L)
theorem call_sortPaths (hu : X.A.units + 8 < cLine) : CallR X (.builtin "sorted") (rSortPaths X.K) := by
  intro pins s σ H vs us Q I r ⟨a, ks, e, hs, ps, q⟩
  subst e
  rw [Vals.ref1 r]
  obtain ⟨its, rv, pl, hz⟩ := I.list hs
  obtain ⟨o, ho, hc, n, hd⟩ := pl.isList
  have ei := refs_valsS rv
  subst ei
  have pth : ∀ p ∈ ks, IsPth s.heap (.ref p.1) (strsAt H (.ref p.1)) := fun p hp => by
    obtain ⟨n0, h1⟩ := ps p hp
    rw [strsAt_of h1]
    obtain ⟨its2, r2, ⟨o2, ho2, hc2, n2, hd2⟩, _⟩ := I.tuple (SqT.of h1)
    exact ⟨p.1, o2, its2.toArray, n2, rfl, ho2, hc2, hd2, by simpa using r2, n0⟩
  have swo : SrtO.Swo fun v u : Value => ltK (strsAt H v) (strsAt H u) := ⟨fun x y h => ltK_swo.asym _ _ h, fun x y z h1 h2 => ltK_swo.tr _ _ _ h1 h2⟩
  refine sorted_seq swo (.inl rfl) ho hc hd (by simpa using hz) (fun h2 h₁ d hd1 keep => ?_) fun h' d out srt stb k dn there => ?_
  · refine paths_sortable (s := { s with heap := h₁ }) (k := strsAt H) (by omega) (by show X.A.in1.in1.units + 1 < cLine; unfold Around.in1; simp; omega) (fun v hv => ?_) fun o e c => ?_
    · obtain ⟨p, hp, rfl⟩ := List.mem_map.mp (by simpa using hv : v ∈ ks.map fun p => Value.ref p.1)
      exact (pth p hp).keeps fun b o e _ => (keep b o e).2
    · have e' := e.symm.trans hd1
      cases e'
      exact absurd (Value.type.inj c) (by decide)
  · have pm : out.Perm (ks.map fun p => Value.ref p.1) := by simpa using stb.perm
    obtain ⟨ls, q1, q2⟩ := lift_perm pm ks rfl
    subst q2
    obtain ⟨n', hn'⟩ := there
    refine ⟨.ref d, upd H d (.lst (ls.map fun p => V.ref p.1)), I.laidN (t' := s.toks) k dn (I.hok.gone dn) ⟨?_, _, n', vals_refsS ls, hn'⟩, rfl, q ls d ?_ q1 (I.hok.gone dn)⟩
    · rw [List.length_map, q1.length_eq]
      simpa using hz
    · refine List.Pairwise.imp_of_mem (fun {x y} hx hy h => ?_) (List.pairwise_map.mp srt)
      have e1 := strsAt_of (ps x (q1.mem_iff.mp hx)).2
      have e2 := strsAt_of (ps y (q1.mem_iff.mp hy)).2
      rw [← e1, ← e2]
      exact h
end
def fSortP : FB := fun ds k => ∃ ps : List (List Str), ds = [.lst (ps.map pD)] ∧ (∀ p ∈ ps, p ≠ []) ∧ ∀ out : List (List Str), out.Perm ps → out.Pairwise (fun x y => ltK y x = false) → k (.lst (out.map pD))
theorem cc_sortP {C : Cq} : CallC C (rSortPaths C.K) fSortP := fun σ H Γ Ts vs ds k Q q ⟨ps, h0, n0, hk⟩ ans => by
  subst h0
  obtain ⟨v, rfl, t⟩ := q.one
  cases t with
  | @lst l xs _ e1 r2 =>
    obtain ⟨ks, e2, e3, e4⟩ := paths_at r2
    subst e2
    -- the same with texts
    let ms : List (Addr × List Str) := ks.map fun p => (p.1, strsK p.2)
    have back : ∀ p ∈ ks, ∃ x ∈ ps, p.2 = x.map Sum.inr := fun p hp => by
      have : p.2 ∈ ks.map (·.2) := List.mem_map.mpr ⟨p, hp, rfl⟩
      rw [e3] at this
      obtain ⟨x, hx, e⟩ := List.mem_map.mp this
      exact ⟨x, hx, e.symm⟩
    have em : ms.map (fun p => V.ref p.1) = ks.map fun p => V.ref p.1 := by
      show (ks.map _).map _ = _
      rw [List.map_map]
      rfl
    have ep : ms.map (·.2) = ps := by
      show (ks.map _).map _ = _
      rw [List.map_map]
      have : ks.map (fun p => strsK p.2) = (ks.map (·.2)).map strsK := by rw [List.map_map]; rfl
      show ks.map (fun p => strsK p.2) = _
      rw [this, e3, List.map_map]
      conv => rhs; rw [← List.map_id ps]
      exact List.map_congr_left fun x _ => strsK_of x
    have at_ : ∀ p ∈ ms, p.2 ≠ [] ∧ hid (sh C (Ts ++ pairs σ Γ)) H p.1 = some (.tup (p.2.map V.str)) := fun p hp => by
      obtain ⟨q, hq, rfl⟩ := List.mem_map.mp hp
      obtain ⟨x, hx, e⟩ := back q hq
      have h1 := e4 q hq
      rw [e] at h1
      rw [kV_inr] at h1
      show strsK q.2 ≠ [] ∧ _
      rw [e, strsK_of]
      exact ⟨n0 x hx, h1⟩
    refine ⟨l, ms, rfl, by rw [em]; exact SqL.of (hid_full _ _ e1), fun p hp => ⟨(at_ p hp).1, hid_full _ _ (at_ p hp).2⟩, fun ls p srt pm np => ?_⟩
    have hr : RpA C.K (hid (sh C (Ts ++ pairs σ Γ)) H) (ls.map fun p => V.ref p.1) ((ls.map (·.2)).map pD) := by
      have sub : ∀ x ∈ ls, x ∈ ms := fun x hx => pm.mem_iff.mp hx
      clear pm srt
      induction ls with
      | nil => exact .nil
      | cons x ls ih =>
        rw [List.map_cons, List.map_cons, List.map_cons]
        refine .cons (.tup (at_ x (sub x List.mem_cons_self)).2 ?_) (ih fun y hy => sub y (List.mem_cons_of_mem _ hy))
        rw [← kV_inr, ← keyD_inr]
        exact keys_rp _
    refine ans _ _ _ (hk (ls.map (·.2)) ?_ (List.pairwise_map.mpr srt)) (q.1.newL np hr)
    rw [← ep]
    exact pm.map (·.2)
end DL

namespace DL
open PySem PySem.Spec PyProof.Rows L2
/-! ### list(d.items()), the keys tuples -/
def lookA : List Addr → List (List V) → Addr → Option (List V)
  | a :: as, x :: xs, b => if a = b then some x else lookA as xs b
  | _, _, _ => none
theorem lookA_no : ∀ {as : List Addr} {xs : List (List V)} {b : Addr}, b ∉ as → lookA as xs b = none
  | [], _, _, _ => rfl
  | _ :: _, [], _, _ => rfl
  | a :: as, x :: xs, b, h => by
    rw [lookA, if_neg (fun z => h (by rw [z]; exact List.mem_cons_self)), lookA_no fun z => h (List.mem_cons_of_mem _ z)]
theorem lookA_ix : ∀ {as : List Addr} {xs : List (List V)} {b : Addr} {x : List V}, lookA as xs b = some x → ∃ j : Nat, as[j]? = some b ∧ xs[j]? = some x
  | [], _, _, _, h => by simp [lookA] at h
  | _ :: _, [], _, _, h => by simp [lookA] at h
  | a :: as, y :: xs, b, x, h => by
    rw [lookA] at h
    by_cases e : a = b
    · rw [if_pos e] at h
      exact ⟨0, by rw [← e]; rfl, h⟩
    · rw [if_neg e] at h
      obtain ⟨j, h1, h2⟩ := lookA_ix h
      exact ⟨j + 1, h1, h2⟩
theorem lookA_at : ∀ {as : List Addr} {xs : List (List V)} {j : Nat} {a : Addr} {x : List V}, as.Nodup → as[j]? = some a → xs[j]? = some x → lookA as xs a = some x
  | [], _, _, _, _, _, h, _ => by simp at h
  | _ :: _, [], _, _, _, _, _, h => by simp at h
  | a :: as, y :: xs, 0, b, x, _, h1, h2 => by
    cases h1
    cases h2
    rw [lookA, if_pos rfl]
  | a :: as, y :: xs, j + 1, b, x, nd, h1, h2 => by
    have nd' := List.nodup_cons.mp nd
    have hb : b ∈ as := List.mem_of_getElem? (i := j) h1
    rw [lookA, if_neg (fun z => nd'.1 (by rw [z]; exact hb))]
    exact lookA_at nd'.2 (j := j) h1 h2
/-- a list of new tuples -/
def layA (H : Hp) (S : Addr) (as : List Addr) (xs : List (List V)) : Hp := fun b => if b = S then some (.lst (as.map V.ref)) else match lookA as xs b with
  | some x => some (.tup x)
  | none => H b
section
variable {P : Program} {w : World} {A : Around} {E : Value → Shared → Prop} {s : Shared} {r d : Addr} {es : Array DictEntry} {ep : Nat}
theorem init_view {R : Result → Shared → Prop} (hh : A.handled = none) (hv : s.heap.IsItemsView r d) (raw : DT.Raw s.heap d es ep) (S : Addr) (n1 : S ≠ r) (n2 : d ≠ S) (at_ : s.heap.get? S = some { cls := .type "list", data := .seq #[] }) (few : es.size ≤ sizeLine)
    (fin : ∀ h' tk acc c as, (∀ b o, b ≠ S → s.heap.get? b = some o → h'.get? b = some o) → h'.get? S = some { cls := .type "list", dict := none, data := .seq acc c, slots := #[] } → as.length = es.size → DT.Made es S h' as → acc.toList = as.map Value.ref → R (.ok (.ret .none)) { s with heap := h', toks := tk }) :
    wpAny (model P w) A.in1 (Builtin.«list.__init__» ⟨[.ref S, .ref r], []⟩) (fun f s' => match f with | .done f => R (.ok f) s' | .again c' => c'.quiet = true ∧ codeAny (model P w) A c' R s') (fun e s' => R (.error e) s') s := by
  have other : ∀ b o, b ≠ S → s.heap.get? b = some o → (s.heap.update S (Obj.mapSeq fun _ => (#[] : Array Value))).get? b = some o := fun b o n e => (Heap.get?_update_other _ _ (Ne.symm n)).trans e
  have now := Heap.get?_update_self (Obj.mapSeq fun _ => (#[] : Array Value)) at_ rfl
  have go : wpAny (model P w) A.in1 (do let old ← Builtin.List.listItems (.ref S); Builtin.List.listUpdate (.ref S) (fun _ => #[]); letGo old.toList.reverse; Builtin.List.listExtendWith (.ref S) (.ref r) .none)
      (fun f s' => match f with | .done f => R (.ok f) s' | .again c' => c'.quiet = true ∧ codeAny (model P w) A c' R s') (fun e s' => R (.error e) s') s := by
    refine wpAny_bind ?_
    unfold Builtin.List.listItems
    refine wpAny_bind (wpAny_seqItems at_ rfl (wpAny_pure ?_))
    have step : wpAny (model P w) A.in1 (updateSeq S (fun _ => #[]) >>= fun _ => letGo (#[] : Array Value).toList.reverse >>= fun _ => Builtin.List.listExtendWith (.ref S) (.ref r) .none)
        (fun f s' => match f with | .done f => R (.ok f) s' | .again c' => c'.quiet = true ∧ codeAny (model P w) A c' R s') (fun e s' => R (.error e) s') s := by
      refine wpAny_bind (wpAny_updateSeq at_ rfl (wpAny_bind (wpAny_letGo ?_)))
      obtain ⟨ov, v1, v2⟩ := hv
      obtain ⟨od, d1, d2⟩ := raw
      refine DT.extI (es := es) (ep := ep) hh ⟨ov, other r ov n1.symm v1, v2⟩ ⟨od, other d od n2 d1, d2⟩ S n1 n2 .none _ now (fun h' tk acc c as k1 k2 k3 k4 k5 => fin h' tk acc c as (fun b o n e => k1 b o n (other b o n e)) k2 k3 (k4.low (Nat.le_of_lt (Heap.lt_size now))) k5) few
    exact step
  exact go
theorem list_view {Q : Value → Shared → Prop} (hh : A.handled = none) (hv : s.heap.IsItemsView r d) (raw : DT.Raw s.heap d es ep) (few : es.size ≤ sizeLine)
    (fin : ∀ h' tk acc c as, (∀ b o, s.heap.get? b = some o → h'.get? b = some o) → h'.get? s.heap.objs.size = some { cls := .type "list", dict := none, data := .seq acc c, slots := #[] } → as.length = es.size → DT.Made es s.heap.objs.size h' as → acc.toList = as.map Value.ref →
      Q (.ref s.heap.objs.size) { s with heap := h', toks := tk }) : wpAny (model P w) A (call (.type "list") [.ref r]) Q E s := by
  refine callType_codes (Q₁ := fun obj s1 => obj = .ref s.heap.objs.size ∧ s1 = { s with heap := s.heap.push { cls := .type "list", data := .seq #[] } }) PySem.F.called_list (PySem.F.typeCall_list_1 _) PySem.F.entry_list_init (code_list_new _ ⟨rfl, rfl⟩) ?_
  rintro obj s1 ⟨rfl, rfl⟩
  have at_ : (s.heap.push { cls := .type "list", data := .seq #[] }).get? s.heap.objs.size = some { cls := .type "list", data := .seq #[] } := Heap.get?_push_size _ rfl
  have ld : d < s.heap.objs.size := raw.lt
  obtain ⟨ov, v1, v2⟩ := hv
  refine ⟨⟨_, at_, rfl⟩, PySem.F.args_list_init_2 _ _, init_view (A := A.in1) (es := es) (ep := ep) hh ⟨ov, Heap.get?_push_of_some _ v1, v2⟩ (raw.push _) _ (Nat.ne_of_gt (Heap.lt_size v1)) (Nat.ne_of_lt ld) at_ few fun h' tk acc c as k1 k2 k3 k4 k5 => ?_⟩
  exact ⟨rfl, fin h' tk acc c as (fun b o e => k1 b o (Nat.ne_of_lt (Heap.lt_size e)) (Heap.get?_push_of_some _ e)) k2 k3 k4 k5⟩
end
def rItemsT2 : V → Hp → VK → Prop := fun x H Q => ∃ (d : Addr) (kvs : List (List Key × V)), x = .ref d ∧ Rd H d (.dT kvs) ∧ ∀ (S : Addr) (as : List Addr) (xs : List (List V)), H S = none → (∀ a ∈ as, H a = none) → S ∉ as → as.Nodup → as.length = kvs.length → xs.length = kvs.length →
  (∀ (j : Nat) (k : List Key) (v : V), kvs[j]? = some (k, v) → ∃ q : Addr, xs[j]? = some [.ref q, v] ∧ H q = some (.tup (k.map kV))) → Q (.ref S) (layA H S as xs)
section
variable {X : Cx} {te : TE} {p apos cpos pos : Pos} {e : Expr}
theorem pe_listItemsT (hc : X.calm = true) (he : PE X e te) (hg : Gl X "list") (hm : X.mg "list" = none) (hv : bootBuiltins "list" = some (.type "list") := by decide +kernel) (hbase : attributeBase e "items" X.env (eval e X.env) = eval e X.env := by rfl) (hline : (apos.endLine == cpos.line) = true := by rfl)
    (hsole : starEach [.Call (.Attribute e "items" apos) [] [] cpos] X.env = (false, eval (.Call (.Attribute e "items" apos) [] [] cpos) X.env) :: starEach [] X.env := by rfl) :
    PE X (.Call (.Name "list" p) [.Call (.Attribute e "items" apos) [] [] cpos] [] pos) (fun σ H Q => te σ H fun x H1 => rItemsT2 x H1 Q) := by
  refine ⟨fun pins s σ H Q I hq => ?_⟩
  refine wpAny_Call_Name_kw (ld_blt I hg hm hv (PyProof.Rows.callWith_type1 ?_ hsole rfl))
  rw [hsole]
  have go : wpAny (model X.prog X.w) X.A (spliced ((false, eval (.Call (.Attribute e "items" apos) [] [] cpos) X.env) :: backTo pos (starEach [] X.env))) (fun us s1 => wpAny (model X.prog X.w) X.A (call (.type "list") us) (EP X pins σ Q) X.xe s1) X.xe s := by
    refine Calls.spliced_cons (wpAny_Call_method (T := "dict") (id := "dict.items") hbase rfl hline F.plainAttrs_dict F.slot_dict_items F.type_dict_items (thn (he.run pins s σ H _ I hq) fun u s1 ⟨x, H1, I1, rx, d, kvs, ex, hd, q⟩ => ?_))
    subst ex
    have eu : u = Value.ref d := rx
    subst eu
    obtain ⟨hs, o, es, ep, ho, exd, datd, sz, few, _, at_⟩ := entT I1 hd
    have raw : DT.Raw s1.heap d es ep := ⟨o, ho, exd, datd⟩
    refine ⟨raw.typeIs, (fun a e => by cases e; exact ⟨o, ho, exd.2.1⟩), ?_⟩
    refine method_meetsIn F.slot_dict_items F.entry_dict_items rfl (PySem.evalArgs_none ⟨rfl, raw.typeIs, F.args_dict_items_1 _, _, DT.meetsItems hs, raw, ?_⟩)
    refine Calls.spliced_nil ?_
    refine list_view (es := es) (ep := ep) (I1.ok.hd hc) ⟨_, Heap.get?_push_size _ rfl, rfl, rfl⟩ (raw.push _) (by omega) fun h' tk acc c as k1 k2 k3 k4 k5 => ?_
    have lo : ∀ a ∈ as, s1.heap.objs.size + 1 < a := fun a ha => by
      have := k4.above a ha
      rw [show (s1.heap.push { cls := .type "dict_items", data := .fields #[.ref d] }).objs.size = s1.heap.objs.size + 1 from Heap.size_push ..] at this
      exact this
    generalize eS : (s1.heap.push { cls := .type "dict_items", data := .fields #[.ref d] }).objs.size = S at k2 k4 ⊢
    have S0 : S = s1.heap.objs.size + 1 := by rw [← eS]; exact Heap.size_push ..
    have newS : H1 S = none := I1.hok.fresh (by omega)
    have newA : ∀ a ∈ as, H1 a = none := fun a ha => I1.hok.fresh (Nat.le_of_lt (Nat.lt_trans (Nat.lt_succ_self _) (lo a ha)))
    have nS : S ∉ as := fun z => by
      have := lo S z
      omega
    have nd : as.Nodup := List.Pairwise.imp (fun {a b} (h : a < b) => Nat.ne_of_lt h) k4.rise
    -- the values in the tuples
    obtain ⟨xs, x1, x2⟩ : ∃ xs : List (List V), xs.length = kvs.length ∧ ∀ (j : Nat) (k : List Key) (v : V), kvs[j]? = some (k, v) → ∃ (en : DictEntry) (q : Addr), es[j]? = some en ∧ en.key = .ref q ∧ H1 q = some (.tup (k.map kV)) ∧ RelV v en.val ∧ xs[j]? = some [.ref q, v] := by
      clear k5 k4 k3 k2 q hd newS newA nS nd lo S0 eS
      have one : ∀ j : Nat, ∃ x : List V, ∀ (k : List Key) (v : V), kvs[j]? = some (k, v) → ∃ (en : DictEntry) (q : Addr), es[j]? = some en ∧ en.key = .ref q ∧ H1 q = some (.tup (k.map kV)) ∧ RelV v en.val ∧ x = [.ref q, v] := fun j => by
        cases z : kvs[j]? with
        | none => exact ⟨[], fun k v e => by cases e⟩
        | some kv =>
          obtain ⟨k, v⟩ := kv
          obtain ⟨en, q, a1, a2, a3, a4⟩ := at_ j k v z
          exact ⟨[.ref q, v], fun k' v' e => by cases e; exact ⟨en, q, a1, a2, a3, a4, rfl⟩⟩
      obtain ⟨f, hf⟩ : ∃ f : Nat → List V, ∀ j, ∀ (k : List Key) (v : V), kvs[j]? = some (k, v) → ∃ (en : DictEntry) (q : Addr), es[j]? = some en ∧ en.key = .ref q ∧ H1 q = some (.tup (k.map kV)) ∧ RelV v en.val ∧ f j = [.ref q, v] := ⟨fun j => Classical.choose (one j), fun j => Classical.choose_spec (one j)⟩
      refine ⟨(List.range kvs.length).map f, by rw [List.length_map, List.length_range], fun j k v e => ?_⟩
      obtain ⟨en, q, a1, a2, a3, a4, a5⟩ := hf j k v e
      refine ⟨en, q, a1, a2, a3, a4, ?_⟩
      have hj : j < kvs.length := (List.getElem?_eq_some_iff.mp e).1
      rw [List.getElem?_map, List.getElem?_range hj, ← a5]
      rfl
    have keep : ∀ b u, H1 b = some u → layA H1 S as xs b = some u := fun b u e => by
      unfold layA
      rw [if_neg (fun z => by rw [z, newS] at e; cases e), lookA_no (fun z => by rw [newA b z] at e; cases e)]
      exact e
    have off : ∀ b o, s1.heap.get? b = some o → layA H1 S as xs b = H1 b := fun b o e => by
      have lt_ := Heap.lt_size e
      unfold layA
      rw [if_neg (fun z => absurd lt_ (by rw [z, S0]; exact Nat.not_lt.mpr (Nat.le_succ _))), lookA_no fun z => absurd (Nat.lt_trans (Nat.lt_succ_self _) (lo b z)) (Nat.not_lt.mpr (Nat.le_of_lt lt_))]
    have J : Inv X pins σ (layA H1 S as xs) { s1 with heap := h', toks := tk } := by
      have I3 := I1
      refine I3.call' (ch := []) rfl ⟨?_, ?_, ?_, ?_, ?_, ?_, ?_⟩ ?_ I3.bare ?_
      · exact fun b o e _ _ _ => k1 b o (Heap.get?_push_of_some _ e)
      · exact fun b o e _ _ _ => ⟨o.slots, k1 b o (Heap.get?_push_of_some _ e)⟩
      · exact fun b o e n _ => (off b o e).trans n
      · exact fun b o e _ => ⟨o, k1 b o (Heap.get?_push_of_some _ e)⟩
      · exact fun b ys e => keep b _ e
      · exact fun b o u e => keep b _ e
      · exact fun b ps e => ⟨#[], by rw [keep b _ e]; simp⟩
      · intro b u e
        unfold layA at e
        by_cases hb : b = S
        · rw [if_pos hb] at e
          cases e
          rw [hb]
          refine ⟨by rw [List.length_map, k3, sz]; exact few, acc.toList, c, by rw [k5]; exact vals_refs as, ?_⟩
          rw [Array.toArray_toList]
          exact k2
        · rw [if_neg hb] at e
          cases z : lookA as xs b with
          | some x =>
            rw [z] at e
            cases e
            obtain ⟨j, j1, j2⟩ := lookA_ix z
            have hj : j < kvs.length := by rw [← x1]; exact (List.getElem?_eq_some_iff.mp j2).1
            obtain ⟨⟨k, v⟩, j3⟩ : ∃ p, kvs[j]? = some p := ⟨_, List.getElem?_eq_getElem hj⟩
            obtain ⟨en, q', a1, a2, a3, a4, a5⟩ := x2 j k v j3
            rw [j2] at a5
            cases a5
            obtain ⟨en', b1, b2⟩ := k4.pairs j b j1
            rw [a1] at b1
            cases b1
            exact ⟨by show 2 ≤ sizeLine; decide, [en.key, en.val], .cons a2 (.cons a4 .nil), ⟨_, b2, rfl, _, rfl⟩⟩
          | none =>
            rw [z] at e
            exact (I1.hok b u e).stay (fun c v _ y => k1 c v (Heap.get?_push_of_some _ y)) (fun c y => keep c _ y) fun c ys y => keep c _ y
      · intro b z
        simp at z
    exact ⟨.ref S, _, J, rfl, q S as xs newS newA nS nd (by rw [k3, sz]) x1 fun j k v e => by
      obtain ⟨en, q', a1, a2, a3, a4, a5⟩ := x2 j k v e
      exact ⟨q', a5, a3⟩⟩
  exact go
end
end DL

namespace DL
open PySem PySem.Spec PyProof.Rows L2
/-! ### the same of data; defaults; what is never reached -/
theorem funD_X {K : PySem.W.Frag} {x qual : Str} {st : Stmt} {dvs : List V} {kws : List (Str × V)} {f : Addr} {fd : FuncData} (F : FunD K x qual (defArgs st) (defBody st) (defScope st) dvs kws f fd) : FunX K x qual st f fd := by
  obtain ⟨oc, od, dV, kV, doc, pm, an, cdv, ct, osl, e, l, h, _, _⟩ := F.ex
  exact ⟨oc, od, dV, kV, doc, pm, an, cdv, ct, osl, e, l, h⟩
theorem binds_no {K : PySem.W.Frag} {fd : FuncData} {ps : List Str} (h : ∃ ds, Vals [] ds ∧ Binds K fd ps ds) : Binds K fd ps [] := by
  obtain ⟨ds, v, b⟩ := h
  cases v
  exact b
section
variable {C : Cq} {X : Cx}
theorem sd_no {st : Stmt} : SD C X st (fun _ _ => False) := ⟨⟨fun pins s σ H D' I ⟨Γ, Ts, O, r, h, _⟩ => h.elim⟩⟩
def dListIT (a : DE) : DE := fun Γ k => a Γ fun d => ∃ kds : List (List Key × D), d = .dT kds ∧ k (.lst (itemsT kds))
theorem items_rp {K : PySem.W.Frag} {H R : Hp} : ∀ {as : List Addr} {xs : List (List V)} {kvs : List (List Key × V)} {kds : List (List Key × D)}, as.length = kvs.length → xs.length = kvs.length → kvs.map (·.1) = kds.map (·.1) → RpA K R (kvs.map (·.2)) (kds.map (·.2)) →
    (∀ (j : Nat) (k : List Key) (v : V), kvs[j]? = some (k, v) → ∃ q : Addr, xs[j]? = some [.ref q, v] ∧ H q = some (.tup (k.map kV))) → (∀ (j : Nat) (a : Addr) (x : List V), as[j]? = some a → xs[j]? = some x → R a = some (.tup x)) → (∀ q x, H q = some (.tup x) → R q = some (.tup x)) →
    RpA K R (as.map V.ref) (itemsT kds)
  | [], [], [], [], _, _, _, _, _, _, _ => .nil
  | a :: as, x :: xs, (k, v) :: kvs, (k2, d) :: kds, h1, h2, h3, h4, h5, h6, h7 => by
    simp only [List.map_cons, List.cons.injEq] at h3
    obtain ⟨rfl, h3⟩ := h3
    cases h4 with
    | cons r1 r2 =>
      obtain ⟨q, e1, e2⟩ := h5 0 k v rfl
      cases e1
      refine .cons (.tup (h6 0 a _ rfl rfl) (.cons (.tup (h7 q _ e2) (keys_rp k)) (.cons r1 .nil))) ?_
      exact items_rp (Nat.succ.inj h1) (Nat.succ.inj h2) h3 r2 (fun j k v e => h5 (j + 1) k v e) (fun j a x e1 e2 => h6 (j + 1) a x e1 e2) h7
  | [], _ :: _, [], _, _, h, _, _, _, _, _ => by simp at h
  | [], _, _ :: _, _, h, _, _, _, _, _, _ => by simp at h
  | _ :: _, _, [], _, h, _, _, _, _, _, _ => by simp at h
  | _ :: _, [], _ :: _, _, _, h, _, _, _, _, _ => by simp at h
  | [], [], [], _ :: _, _, _, h, _, _, _, _ => by simp at h
  | _ :: _, _ :: _, _ :: _, [], _, _, h, _, _, _, _ => by simp at h
theorem ed_listIT {e : Expr} {a : DE} {p apos cpos pos : Pos} (hc : X.calm = true) (ha : ED C X e a) (hg : Gl X "list") (hm : X.mg "list" = none) (hbase : attributeBase e "items" X.env (eval e X.env) = eval e X.env := by rfl) (hline : (apos.endLine == cpos.line) = true := by rfl)
    (hsole : starEach [.Call (.Attribute e "items" apos) [] [] cpos] X.env = (false, eval (.Call (.Attribute e "items" apos) [] [] cpos) X.env) :: starEach [] X.env := by rfl) :
    ED C X (.Call (.Name "list" p) [.Call (.Attribute e "items" apos) [] [] cpos] [] pos) (dListIT a) :=
  ⟨(pe_listItemsT hc ha.pe hg hm (by decide +kernel) hbase hline hsole).weak fun σ H Q ⟨Γ, Ts, k, r, h, ans⟩ => ⟨Γ, Ts, _, r, h, fun v H1 d ⟨kds, h0, hk⟩ r1 => by
    subst h0
    obtain ⟨b, kvs, rfl, e1, e2, e3⟩ := rd_dT r1.top
    refine ⟨b, kvs, rfl, rd_mono hid_full e1, fun S as xs nS nA oS nd l1 l2 at_ => ?_⟩
    have keep : ∀ c u, H1 c = some u → layA H1 S as xs c = some u := fun c u e => by
      unfold layA
      rw [if_neg (fun z => by rw [z, nS] at e; cases e), lookA_no (fun z => by rw [nA c z] at e; cases e)]
      exact e
    have gr := (r1.drop.grow keep)
    have out : ∀ {c : Addr}, H1 c = none → ¬ sh C (Ts ++ pairs σ Γ) c := fun h => r1.drop.out h
    refine ans _ _ _ hk (gr.push (.lst (hid_mk (out nS) (by unfold layA; rw [if_pos rfl])) ?_))
    have up : ∀ c u, hid (sh C (Ts ++ pairs σ Γ)) H1 c = some u → hid (sh C (Ts ++ pairs σ Γ)) (layA H1 S as xs) c = some u := hid_mono (fun _ z => z) fun c u _ e => keep c u e
    refine items_rp (H := H1) l1 l2 e2 (e3.mono up) at_ (fun j c x f1 f2 => ?_) fun q x e => up q _ (hid_mk (fun z => ?_) e)
    · have hc : c ∈ as := List.mem_of_getElem? f1
      refine hid_mk (out (nA c hc)) ?_
      unfold layA
      rw [if_neg (fun z => oS (by rw [← z]; exact hc)), lookA_at nd f1 f2]
    · have t := r1.drop.rel.thing z
      rw [e] at t
      exact t⟩⟩
end
section
variable {C : Cq} {X : Cx} {k : Nat} {f c : Addr} {fd : FuncData} {ps : List Str} {x : Str} {p pos : Pos} {pre : List D → Prop} {post : List D → List (Str × D) → Prop} {E : Addr}
theorem ed_make0 (M : Mk X.K c f) (F : FnG X.prog X.w X.K X.mg X.base CX0 k f fd ps (spI C.K c pre post)) (hst : Still X.base X.A) (hr : Room (k + 1) X.A) (hg : Gl X x) (hm : X.mg x = some (.ref c)) (hb : ∃ ds, Vals [V.ref E] ds ∧ Binds X.K fd ps ds) (hE : KEmp C.K E) (cl : ClsK C.K c)
    (hdb : (x == ("__debug__" : Str)) = false := by decide) : ED C X (.Call (.Name x p) [] [] pos) (dMake c pre post [.emp] dNil) := by
  obtain ⟨us, hv, hb⟩ := hb
  exact ⟨(pe_make0G M F hst hr hg hm hb hv (pass0 (X := X)) hdb).weak fun σ H Q ⟨Γ, Ts, κ, r, h, ans⟩ => fun x dx hx hdx ne => by
    obtain ⟨hp, hq⟩ := h
    exact make_go cl hp hq ans ⟨r, .cons (.emp hE) .nil⟩ x dx hx hdx ne⟩
end
section
variable {C : Cq} {X : Cx}
/-! k not in d -/
def dNinT (a b : DE) : DE := fun Γ k => a Γ fun y => b Γ fun x => ∃ kds, ∃ j : List Key, x = .dT kds ∧ y = .tup (j.map keyD) ∧ k (.bl (!(valG kds j).isSome))
theorem ninT_go {a b : DE} : ∀ σ H Q, liftE C (dNinT a b) σ H Q → tDNotIn (liftE C a) (liftE C b) σ H Q := fun σ H Q ⟨Γ, Ts, k, r, h, ans⟩ => ⟨Γ, Ts, _, r, h, fun v H1 y h1 r1 => ⟨Γ, _, _, r1, h1, fun w H2 x ⟨kds, j, h2, h3, h4⟩ r2 => by
    subst h2 h3
    obtain ⟨d, kvs, rfl, e1, e2, e3⟩ := rd_dT r2.top1
    obtain ⟨xa, rfl, ex⟩ := key_at r2.drop.top1
    refine ⟨d, valV kvs j, rfl, .inr ⟨kvs, j, xa, e1, rfl, ex, rfl⟩, ?_⟩
    have es : (valV kvs j).isSome = (valG kds j).isSome := by
      rcases val_rel e2 e3 j with ⟨q1, q2⟩ | ⟨v, d, q1, q2, q3⟩ <;> rw [q1, q2] <;> rfl
    rw [es]
    exact ans _ _ _ h4 (r2.drop.drop.bl _)⟩⟩
theorem td_ninT {i o : Expr} {a b : DE} {pos : Pos} (hu : X.A.units + 65 < cLine) (ha : ED C X i a) (hb : ED C X o b) (h1 : behindInMarks .NotIn o = false := by rfl) : TD C X (.Compare i [.NotIn] [o] pos) (dTest (dNinT a b)) :=
  ⟨(L2.pt_cmp (pc_dnotin (by omega) ha.pe hb.pe) h1).weak fun σ H Q ⟨Γ, Ts, k, s, hk, ans⟩ => ninT_go σ H _ ⟨Γ, Ts, _, s, hk, fun v H1 d ⟨b, e, hk1⟩ r1 => by
    subst e
    cases r1.top1
    exact ⟨b, rfl, ans b H1 hk1 r1.drop⟩⟩⟩
end
end DL

namespace DL
open PySem PySem.Spec PyProof.Rows L2
section
variable {C : Cq} {X : Cx}
/-! a part of a thing, new; two new things at once -/
theorem oe_slO (i : Nat) {x : Str} {lo hi : Option Expr} {l h : DO} {xp p2 pos : Pos} (hk : C.K = X.K) (hN : X.N[i]? = some x := by rfl) (hl : OG C X lo l) (hh : OG C X hi h) (hv : Vis X.env.scope x := by first | exact Or.inl rfl | exact Or.inr (Or.inl rfl) | exact Or.inr (Or.inr rfl)) (hd : (x == ("__debug__" : Str)) = false := by decide) (hcd : (x == ("__classdict__" : Str)) = false := by decide) :
    OE C X (.Subscript (.Name x xp) (.Slice lo hi none p2) pos) (dSlO i l h) :=
  ⟨(pe_slice sl_list (pe_var hN hv hd hcd) hl.po hh.po).weak fun σ H Q ⟨Γ, Ts, k, r, ⟨ds, h0, h⟩, ans⟩ => by
    obtain ⟨a, e1, t1, _, _⟩ := r.own h0
    refine ⟨_, e1, Γ, Ts, _, r, h, fun lo H2 h2 r2 => ⟨Γ, Ts, _, r2, h2, fun hi H3 h3 r3 => ?_⟩⟩
    obtain ⟨l', e1', t1', _, _⟩ := r3.own h0
    rw [e1] at e1'
    cases e1'
    obtain ⟨ys, e3, q3⟩ := RS.lstAt (r1 := r3) t1'
    exact ⟨a, ys, rfl, SqL.of e3, fun p hp => ans _ _ _ h3 (r3.newO hp (.lst upd_same (q3.cut lo hi)))⟩⟩
def sParOO (i j : Nat) (a b : DE) : DS := fun O Γ => a Γ fun d => b Γ fun e => O.nx ((Γ.set i (some (.own d))).set j (some (.own e)))
theorem sd_parOO {i j : Nat} {x y : Str} {a b : Expr} {ta tb : DE} {px py pt pos : Pos} {kt k2 pt2} (hc : X.calm = true) (hN : X.N.Nodup) (hi : X.N[i]? = some x) (hj : X.N[j]? = some y) (hij : i ≠ j)
    (hx : X.env.scope.names.lookup x = some .local) (hy : X.env.scope.names.lookup y = some .local) (ha : OE C X a ta) (hb : OE C X b tb)
    (hswap : swappedStores [.Tuple [.Name x px, .Name y py] kt pt] (.Tuple [a, b] k2 pt2) X.env = pure (some [x, y]))
    (hs : swapsWithSole [.Tuple [.Name x px, .Name y py] kt pt] (.Tuple [a, b] k2 pt2) pos.line X.env = pure false := by rfl) (he : starEach [a, b] X.env = (false, eval a X.env) :: starEach [b] X.env := by rfl) (he2 : starEach [b] X.env = (false, eval b X.env) :: starEach [] X.env := by rfl) :
    SD C X (.Assign [.Tuple [.Name x px, .Name y py] kt pt] (.Tuple [a, b] k2 pt2) pos) (sParOO i j ta tb) :=
  ⟨(ps_par hc hN hi hj hij hx hy (pa_cons ha.pe (pa_cons hb.pe pa_nil he2) he) hswap hs).weak fun D' σ H ⟨Γ, Ts, O, r, h, n, _⟩ => ⟨Γ, Ts, _, r, h, fun v H1 d h1 r1 => ⟨Γ, _, _, r1, h1, fun w H2 e h2 r2 =>
    ⟨v, w, rfl, n _ H2 _ h2 (((r2.sub Sub.swap).set i).set j)⟩⟩⟩⟩
end
end DL

namespace DL
open PySem PySem.Spec PyProof.Rows L2
/-! ### what is shown is a text of signs, so it may be compared within lists -/
def Sgn (s : Str) : Prop := ∀ c ∈ s.cps.toList, c < 0x110000
theorem sgn_app {s t : Str} (h : Sgn s) (g : Sgn t) : Sgn (s ++ t) := fun c hc => by
  rw [show (s ++ t).cps.toList = s.cps.toList ++ t.cps.toList from Array.toList_append] at hc
  exact (List.mem_append.mp hc).elim (h c) (g c)
theorem chr_lt (c : Char) : c.toNat < 0x110000 := by
  have h := c.valid
  rcases h with h | ⟨_, h⟩
  · exact Nat.lt_trans h (by decide)
  · exact h
theorem sgn_of (s : String) : Sgn (Str.ofString s) := fun c hc => by
  rw [Str.ofString_eq_toList] at hc
  obtain ⟨x, _, rfl⟩ := List.mem_map.mp hc
  exact chr_lt x
theorem sgn_join {sep : Str} (hs : Sgn sep) : ∀ ts : List Str, (∀ t ∈ ts, Sgn t) → Sgn (Str.join sep ts)
  | [], _ => fun c hc => by
    have : c ∈ ([] : List Nat) := hc
    cases this
  | [x], h => h x List.mem_cons_self
  | x :: y :: r, h => sgn_app (sgn_app (h x List.mem_cons_self) hs) (sgn_join hs (y :: r) fun t ht => h t (List.mem_cons_of_mem _ ht))
theorem sgn_char {q c : Nat} (hq : q < 0x110000) (hc : c < 0x110000) : ∀ n ∈ Builtin.Str.reprChar q c, n < 0x110000 := fun n hn => by
  have hex : ∀ w : Nat, n ∈ (List.replicate (w - ((Nat.toDigits 16 c).map Char.toNat).length) 48 ++ (Nat.toDigits 16 c).map Char.toNat) → n < 0x110000 := fun w h => by
    rcases List.mem_append.mp h with h | h
    · rw [List.eq_of_mem_replicate h]
      decide
    · obtain ⟨x, _, rfl⟩ := List.mem_map.mp h
      exact chr_lt x
  have two : ∀ a b : Nat, a < 0x110000 → b < 0x110000 → n ∈ [a, b] → n < 0x110000 := fun a b ha hb h => by
    simp only [List.mem_cons, List.not_mem_nil, or_false] at h
    rcases h with h | h <;> rw [h] <;> assumption
  unfold Builtin.Str.reprChar at hn
  simp only at hn
  split at hn
  · exact two _ _ (by decide) hc hn
  split at hn
  · exact two _ _ (by decide) (by decide) hn
  split at hn
  · exact two _ _ (by decide) (by decide) hn
  split at hn
  · exact two _ _ (by decide) (by decide) hn
  split at hn
  · rw [List.mem_singleton.mp hn]
    exact hc
  split at hn
  · exact (List.mem_append.mp hn).elim (two _ _ (by decide) (by decide)) (hex _)
  split at hn
  · exact (List.mem_append.mp hn).elim (two _ _ (by decide) (by decide)) (hex _)
  · exact (List.mem_append.mp hn).elim (two _ _ (by decide) (by decide)) (hex _)
theorem sgn_fold {q : Nat} (hq : q < 0x110000) : ∀ (l : List Nat) (acc : Array Nat), (∀ c ∈ l, c < 0x110000) → (∀ n ∈ acc.toList, n < 0x110000) → ∀ n ∈ (l.foldl (fun out c => out ++ (Builtin.Str.reprChar q c).toArray) acc).toList, n < 0x110000
  | [], acc, _, ha => ha
  | c :: l, acc, hl, ha => sgn_fold hq l _ (fun d hd => hl d (List.mem_cons_of_mem _ hd)) fun n hn => by
    rw [Array.toList_append] at hn
    exact (List.mem_append.mp hn).elim (ha n) (sgn_char hq (hl c List.mem_cons_self) n)
theorem sgn_repr {x : Str} (h : Sgn x) : Sgn (reprText x) := by
  have hq : reprQuote x < 0x110000 := by
    unfold reprQuote
    split <;> decide
  intro n hn
  unfold reprText at hn
  rw [show ((x.cps.foldl (fun out c => out ++ (Builtin.Str.reprChar (reprQuote x) c).toArray) #[reprQuote x]).push (reprQuote x)).toList = (x.cps.foldl (fun out c => out ++ (Builtin.Str.reprChar (reprQuote x) c).toArray) #[reprQuote x]).toList ++ [reprQuote x] from Array.toList_push, ← Array.foldl_toList] at hn
  rcases List.mem_append.mp hn with hn | hn
  · exact sgn_fold hq _ _ h (fun n hn => by
      have : n = reprQuote x := by simpa using hn
      rw [this]
      exact hq) n hn
  · rw [List.mem_singleton.mp hn]
    exact hq
mutual
theorem sgn_shown : ∀ d : D, d.lf = true → Sgn d.py.shown
  | .non, _ => by
    unfold D.py
    rw [PyData.shown_none]
    exact sgn_of _
  | .bl b, _ => by
    unfold D.py
    rw [PyData.shown_bool]
    cases b <;> exact sgn_of _
  | .int i, _ => by
    unfold D.py
    rw [PyData.shown_int]
    exact sgn_of _
  | .str x, h => by
    unfold D.py
    rw [PyData.shown_str]
    refine sgn_repr fun c hc => ?_
    simp only [D.lf] at h
    have := Array.all_eq_true_iff_forall_mem.mp h c (by simpa using hc)
    simpa using this
  | .lst xs, h => by
    unfold D.py
    rw [PyData.shown_list]
    exact sgn_app (sgn_app (sgn_of _) (sgn_join (sgn_of _) _ (sgn_shownA xs (by simpa only [D.lf] using h)))) (sgn_of _)
  | .tup xs, h => by
    unfold D.py
    rw [PyData.shown_tuple]
    exact sgn_app (sgn_app (sgn_of _) (sgn_join (sgn_of _) _ (sgn_shownA xs (by simpa only [D.lf] using h)))) (sgn_of _)
  | .dK _, h => by simp [D.lf] at h
  | .dT _, h => by simp [D.lf] at h
  | .obj _ _, h => by simp [D.lf] at h
  | .slf _ _ _, h => by simp [D.lf] at h
  | .emp, h => by simp [D.lf] at h
theorem sgn_shownA : ∀ xs : List D, lfA xs = true → ∀ t ∈ PyData.shownAll (pyA xs), Sgn t
  | [], _, t, ht => by
    unfold pyA at ht
    rw [PyData.shownAll_nil] at ht
    cases ht
  | x :: xs, h, t, ht => by
    simp only [lfA, Bool.and_eq_true] at h
    have h' := h
    unfold pyA at ht
    rw [PyData.shownAll_cons] at ht
    rcases List.mem_cons.mp ht with rfl | z
    · exact sgn_shown x h'.1
    · exact sgn_shownA xs h'.2 t z
end
theorem sgn_fit {s : Str} (h : Sgn s) {n : Nat} (hl : s.length ≤ n) : Fit 0 n (.str s) := Fit.str (Array.all_eq_true_iff_forall_mem.mpr fun c hc => decide_eq_true (h c (by simpa using hc))) hl
end DL

namespace DL
open PySem PySem.Spec PyProof.Rows L2
/-! ### defs whose answer is new, so that one may change it -/
theorem RelL.ownNew {C : Cq} {H H' : Hp} {L : List (V × B)} (r : RelL C H L) (g : ∀ b o, H b = some o → H' b = some o) {a : Addr} (na : H a = none) {d : D} (t : Top C.K H' (hid (fun b => sh C L b ∨ b = a) H') a d) : RelL C H' ((.ref a, .own d) :: L) := by
  have out := r.out na
  have r' := r.grow g
  have es : sh C ((.ref a, .own d) :: L) = fun b => sh C L b ∨ b = a := by
    funext b
    unfold sh
    show (C.S0 b ∨ b ∈ a :: owns L) = ((C.S0 b ∨ b ∈ owns L) ∨ b = a)
    rw [List.mem_cons]
    refine propext ⟨fun z => ?_, fun z => ?_⟩
    · rcases z with z | z | z
      · exact .inl (.inl z)
      · exact .inr z
      · exact .inl (.inr z)
    · rcases z with (z | z) | z
      · exact .inl z
      · exact .inr (.inr z)
      · exact .inr (.inl z)
  have hh : ∀ b u, hid (sh C L) H b = some u → hid (sh C ((.ref a, .own d) :: L)) H' b = some u := fun b u z => by
    obtain ⟨n, e⟩ := hid_in z
    rw [es]
    exact hid_mk (fun w => w.elim n fun w => by rw [w, na] at e; cases e) (g b u e)
  refine ⟨fun q hq => ?_, fun b hb => ?_, List.nodup_cons.mpr ⟨fun z => out (.inr z), r'.nd⟩, r'.dom, r'.bag, r'.same⟩
  · rcases List.mem_cons.mp hq with z | z
    · subst z
      exact ⟨a, rfl, by rw [es]; exact t⟩
    · exact (r.ok q z).mono2 hh fun b ds _ o e => g b o e
  · rcases List.mem_cons.mp hb with z | z
    · subst z
      exact ⟨fun z => out (.inl z), r.h0 na, fun z => by
        have := t.thing
        rw [z] at this
        exact this⟩
    · exact r'.own b z
def spN (K : PySem.W.Frag) (pre : List D → Prop) (post : List D → D → Prop) : Sp := fun vs H Q _ => ∃ (S : Addr → Prop) (ds : List D), (∀ a, S a → Thing (H a)) ∧ RpA K (hid S H) vs ds ∧ pre ds ∧
  ∀ a H' d, (∀ b o, H b = some o → H' b = some o) → H a = none → Top K H' (hid (fun b => S b ∨ b = a) H') a d → post ds d → Q (.ref a) H'
theorem top_rp {K : PySem.W.Frag} {H R : Hp} {a : Addr} {d : D} {S : Addr → Prop} (n : ¬ S a) (m : ∀ b o, R b = some o → hid S H b = some o) (t : Top K H R a d) : Rp K (hid S H) (.ref a) d := by
  cases t with
  | lst e q => exact .lst (hid_mk n e) (q.mono m)
  | dK e k q => exact .dK (.inl (hid_mk n e)) k (q.mono m)
  | dT e k q => exact .dT (.inl (hid_mk n e)) k (q.mono m)
  | obj e k q c => exact .obj (hid_mk n e) k (q.mono m) c
  | slf e k q c => exact .slf (hid_mk n e) k (q.mono m) c
section
variable {P : Program} {w : World} {K : PySem.W.Frag} {mg : Str → Option Value} {base : Heap} {k : Nat} {f : Addr} {fd : FuncData} {ps : List Str} {pre : List D → Prop} {post : List D → D → Prop}
theorem FnG.ofN (F : FnG P w K mg base CX0 k f fd ps (spN K pre post)) : FnG P w K mg base CX0 k f fd ps (spD K pre post) := F.imp fun vs H Q E ⟨S, ds, hd, r, hp, κ⟩ => ⟨S, ds, hd, r, hp, fun a H' d g na t hq => κ _ H' d g hq (by
  have ns : ¬ S a := fun z => by
    have := hd a z
    rw [na] at this
    exact this
  refine top_rp ns (fun b o e => ?_) t
  obtain ⟨n, e'⟩ := hid_in e
  exact hid_mk (fun z => n (.inl z)) e')⟩
/-- a body that ends by returning a new thing -/
abbrev DN := (D → Prop) → G → Prop
def liftR (C : Cq) (t : DN) : TS := fun D' σ H => ∃ Γ Ts k, RS C σ H Γ Ts ∧ t k Γ ∧ ∀ v H' d σ' Γ', k d → RS C σ' H' Γ' ((v, .own d) :: Ts) → D'.rt v H'
structure NSD (C : Cq) (X : Cx) (sts : List Stmt) (t : DN) : Prop where
  pss : PSs X sts (liftR C t)
def nRet (a : DE) : DN := fun k Γ => a Γ k
def nSeq (s : DS) (t : DN) : DN := fun k Γ => s { nx := t k, rt := fun _ => False } Γ
theorem ns_ret {C : Cq} {X : Cx} {e : Expr} {a : DE} {pos : Pos} (h : OE C X e a) : NSD C X [.Return (some e) pos] (nRet a) :=
  ⟨(pss_one (ps_ret h.pe)).weak fun D' σ H ⟨Γ, Ts, k, r, h, z⟩ => ⟨Γ, Ts, k, r, h, fun v H' d hd r' => z v H' d σ Γ hd r'⟩⟩
theorem ns_cons {C : Cq} {X : Cx} {st : Stmt} {rest : List Stmt} {s : DS} {t : DN} (h1 : SD C X st s) (h2 : NSD C X rest t) : NSD C X (st :: rest) (nSeq s t) :=
  ⟨(pss_cons h1.ps h2.pss).weak fun D' σ H ⟨Γ, Ts, k, r, h, z⟩ => ⟨Γ, Ts, { nx := t k, rt := fun _ => False }, r, h, fun σ' H' Γ' h' r' => ⟨Γ', Ts, k, r', h', z⟩, fun _ _ _ _ _ z _ => z.elim, fun _ _ _ z _ => z.elim, fun _ _ _ z _ => z.elim⟩⟩
theorem fnN {x qual : Str} {st : Stmt} {N : List Str} (F : Fun K x qual st f fd) (S : FnScope N ps (defScope st)) (hlen : ∀ ds, pre ds → ds.length = ps.length)
    (hbody : ∀ (cdv : Value) (A : Around) (fr : List Env) (s : Shared) (H : Hp) (E : XK) (S0 : Addr → Prop), Still base (A.deeper (envOfC qual (defScope st) s.heap.objs.size f cdv)) → Room k (A.deeper (envOfC qual (defScope st) s.heap.objs.size f cdv)) →
      ∃ t, NSD ⟨K, none, 0, S0, H⟩ (cxOf CX0 P w K mg base N qual (defScope st) f cdv A fr s H E).nox (defBody st) t ∧ ∀ ds, pre ds → t (post ds) (gD N ds)) : FnG P w K mg base CX0 (k + 1) f fd ps (spN K pre post) := by
  have hpl : ps.length ≤ N.length := by have := congrArg List.length S.pre; rw [List.length_take] at this; omega
  refine fnG_of F S (fun vs H Q E ⟨S0, ds, _, r, hp, _⟩ => by rw [r.length]; exact hlen ds hp) fun cdv A fr s H vs Q E hs hr ⟨S0, ds, hd, r, hp, κ⟩ => ?_
  obtain ⟨t, ht, hq⟩ := hbody cdv A fr s H E S0 hs hr
  refine ⟨_, ht.pss.nox, gD N ds, [], _, RS.startD hd r (by rw [r.length, hlen ds hp]; exact hpl), hq ds hp, fun v H' d σ' Γ' h' r' => ?_⟩
  obtain ⟨a, rfl, t'⟩ := r'.rel.ok _ List.mem_cons_self
  refine κ a H' d (fun b o e => r'.rel.same b o (fun z => by cases z) e) (r'.rel.own a List.mem_cons_self).2.1 (t'.mono (fun _ e => e) fun b o e => ?_) h'
  obtain ⟨n, e'⟩ := hid_in e
  refine hid_mk (fun z => n ?_) e'
  rcases z with z | z
  · exact .inl z
  · rw [z]
    exact .inr List.mem_cons_self
end
/-! the comprehension as a new thing -/
section
variable {C : Cq} {X : Cx}
theorem lc_goO {p : Pat} {ti : DI} {tt : DT} {te : DE} {vs : List Nat} (hp : ∀ j ∈ p.slots, j ∈ vs) (σ : L2.St) (H : Hp) (Q : VK) (h : liftN C (dLc p ti tt te vs) σ H Q) :
    tLc (liftI C ti) (gP C.K p) (liftT C tt) (liftE C te) vs σ H Q := by
  obtain ⟨Γ, Ts, k, r, h, ans⟩ := h
  refine ⟨Γ, Ts, _, r, h, fun J H1 tmp ds ⟨hlen, hd⟩ w ho r1 D hD => ?_⟩
  obtain ⟨e, pe, r2⟩ := r1.inBlk vs
  have r3 : RS C (wipe σ vs) (upd H1 D (.lst [])) (wipeG Γ vs) ((.ref D, .own (.lst [])) :: tmp :: (Ts ++ e)) := ⟨r2.rel.newOwn hD .nil, r2.len, r2.cov⟩
  refine ⟨fun i m H => m = ds.length - i ∧ i ≤ ds.length ∧ ∃ acc, acc.length ≤ i ∧ RS C (wipe σ vs) H (wipeG Γ vs) ((.ref D, .own (.lst acc)) :: tmp :: (Ts ++ e)) ∧ lcK p tt te (wipeG Γ vs) k (ds.drop i) acc,
    ⟨ds.length, rfl, Nat.zero_le _, [], Nat.le_refl _, r3, hd⟩, ?_⟩
  rintro i m H ⟨rfl, hle, acc, hacc, r4, h4⟩
  have r4' : RelL C H (tmp :: ((.ref D, .own (.lst acc)) :: ((Ts ++ e) ++ pairs (wipe σ vs) (wipeG Γ vs)))) := r4.rel.sub Sub.swap
  by_cases hlt : i < ds.length
  · refine .inr ⟨w.goes i H _ hlt r4', fun H => ∃ acc, acc.length ≤ i + 1 ∧ RS C (wipe σ vs) H (wipeG Γ vs) ((.ref D, .own (.lst acc)) :: tmp :: (Ts ++ e)) ∧ lcK p tt te (wipeG Γ vs) k (ds.drop (i + 1)) acc,
      fun H' z => ⟨ds.length - (i + 1), by omega, rfl, hlt, z⟩, fun x H2 y => ?_⟩
    obtain ⟨d, ed, r5⟩ := w.yields i H x H2 _ hlt r4' y
    have edr : ds.drop i = d :: ds.drop (i + 1) := by
      obtain ⟨hl, e'⟩ := List.getElem?_eq_some_iff.mp ed
      rw [← e']
      exact List.drop_eq_getElem_cons hl
    rw [edr] at h4
    obtain ⟨Γ2, e2, h5⟩ := h4
    have r6 : RS C (wipe σ vs) H2 (wipeG Γ vs) ((x, .dat d) :: (.ref D, .own (.lst acc)) :: tmp :: (Ts ++ e)) := ⟨r5.sub (Sub.cons Sub.swap), r4.len, r4.cov⟩
    refine pat_go r6 e2 fun σ3 r7 o1 o2 => ⟨?_, ?_⟩
    · exact (wipe_off (o1.mono hp)).trans rfl
    · have back : ∀ {H : Hp} {Us : List (V × B)}, RS C σ3 H Γ2 Us → RS C (wipe σ vs) H (wipeG Γ vs) Us := fun {H Us} z => by
        have z2 := z.wiped vs
        rw [wipe_off (o1.mono hp), wipeG_off (o2.mono hp)] at z2
        exact z2
      refine ⟨Γ2, _, _, r7, h5, fun b H3 h6 r8 => ?_⟩
      cases b with
      | false => exact ⟨acc, Nat.le_succ_of_le hacc, back r8, h6⟩
      | true =>
        refine ⟨Γ2, _, _, r8, h6, fun y H4 dy h7 r9 => ?_⟩
        obtain ⟨xs, e3, e4, r10⟩ := (back r9).rel.app
        refine ⟨xs, e3, ?_, acc ++ [dy], ?_, ⟨r10, r4.len, r4.cov⟩, h7⟩
        · have := sizeL
          omega
        · rw [List.length_append, List.length_singleton]
          omega
  · have en : ds.drop i = [] := List.drop_eq_nil_of_le (by omega)
    rw [en] at h4
    have ei : i = ds.length := by omega
    refine .inl ⟨by rw [ei]; exact w.stops H _ r4', ans _ _ _ h4 ?_⟩
    refine ⟨r4.rel.sub ?_, r1.len, r1.cov⟩
    refine Sub.cons ?_
    refine ⟨[tmp], ?_⟩
    have q : ((Ts ++ e) ++ pairs (wipe σ vs) (wipeG Γ vs)).Perm (Ts ++ pairs σ Γ) := by
      rw [List.append_assoc]
      exact (pe.symm).append_left Ts
    exact (q.cons tmp).trans (List.perm_append_singleton tmp _).symm
theorem oe_lc {p : Pat} {elt tg iter : Expr} {ifs : List Expr} {scope : Scope} {own : List (Str × Nat)} {pos : Pos} {ti : DI} {tt : DT} {te : DE} (hc : X.calm = true) (hN : X.N.Nodup) (hi : IDd C X tg iter ti) (ok : BlkOk X.N X.env.scope scope own)
    (hg : ∀ (s : Shared) (H : Hp) (A : Addr) (cl : List (Str × Addr)) (fp : List Addr), PG (X.blk s H scope (compEnvC scope cl A X.env) fp) tg (gP C.K p)) (ht : ∀ (s : Shared) (H : Hp) (A : Addr) (cl : List (Str × Addr)) (fp : List Addr), TsD C (X.blk s H scope (compEnvC scope cl A X.env) fp) ifs tt)
    (he : ∀ (s : Shared) (H : Hp) (A : Addr) (cl : List (Str × Addr)) (fp : List Addr), ED C (X.blk s H scope (compEnvC scope cl A X.env) fp) elt te) (hp : p.slots.all (fun j => (own.map (·.2)).contains j) = true := by rfl) (hs : ∀ x, foldedSetIterable iter X.env x = pure x := by intro _; rfl) :
    OE C X (.ListComp elt [⟨tg, iter, ifs, 0⟩] scope pos) (dLc p ti tt te (own.map (·.2))) :=
  ⟨(pe_lc hc hN hi.pi ok hg (fun a b c d e => (ht a b c d e).pts) (fun a b c d e => (he a b c d e).pe) hs).weak (lc_goO fun j hj => by simpa using List.all_eq_true.mp hp j hj)⟩
end
/-! a method's new answer -/
section
variable {C : Cq} {X : Cx} {k : Nat} {f c : Addr} {fd : FuncData} {ps : List Str} {m : Str} {o e : Expr} {es : List Expr} {a : DE} {t : DA} {apos pos : Pos} {pre : List D → Prop} {post : List D → D → Prop}
theorem meth_goN {σ : L2.St} {H2 : Hp} {Γ : G} {Ts : List (V × B)} {κ : D → Prop} {Q : VK} {v : V} {d : D} {vs : List V} {ds : List D} (hp : pre (d :: ds)) (hq : ∀ r, post (d :: ds) r → κ r) (ans : AnsO C σ Γ Ts κ Q) (q : AllIn C σ H2 Γ ((v, .dat d) :: Ts) vs ds) : spN C.K pre post (v :: vs) H2 Q E0 := by
  obtain ⟨r2, q2⟩ := q
  have sw : sh C ((v, B.dat d) :: Ts ++ pairs σ Γ) = sh C (Ts ++ pairs σ Γ) := sh_dat
  rw [sw] at q2
  exact ⟨sh C (Ts ++ pairs σ Γ), d :: ds, fun a z => r2.drop.rel.thing z, .cons r2.top q2, hp, fun b H' d' g na tp hd => ans _ H' d' (hq d' hd) ⟨r2.drop.rel.ownNew g na tp, r2.len, r2.cov⟩⟩
theorem oe_meth {pl : Sem Bool} (F : FnG X.prog X.w X.K X.mg X.base CX0 k f fd ps (spN C.K pre post)) (hk : C.K = X.K) (hst : Still X.base X.A) (hr : Room k X.A) (hm : Meth X.K c m f) (hb : Binds X.K fd ps []) (ho : ED C X o a) (ha : AD C X (e :: es) t)
    (hs : starEach (e :: es) X.env = (false, eval e X.env) :: starEach es X.env := by rfl) (hpl : (backTo pos (starEach es X.env)).any (·.1) = false := by rfl)
    (ht : eval (.Call (.Attribute o m apos) (e :: es) [] pos) X.env = (do
      let ov ← eval o X.env
      standAt apos.atName
      let (f, first) ← holding [ov] (getMethod ov m pl)
      callWith pos f first (backTo pos (starEach (e :: es) X.env)) (backToKw pos (keywordEach [] X.env))) := by rfl) (cl : ClsK C.K c) :
    OE C X (.Call (.Attribute o m apos) (e :: es) [] pos) (dMeth c m pre post a t) :=
  ⟨(pe_methG (pl := pl) ho.pe (by rw [← hk]; exact cl.cl) hm F hst hr hb .nil (pass0 (X := X)) ha.pa hs hpl ht).weak fun σ H Q ⟨Γ, Ts, κ, r, h, ans⟩ => ⟨Γ, Ts, _, r, h, fun v H1 d ⟨⟨fs, h1, h2⟩, h3⟩ r1 => by
    subst h1
    obtain ⟨b, dx, kvs, rfl, e1, e2, e3, _⟩ := rd_obj r1.top
    refine ⟨b, dx, kvs, rfl, hid_full _ _ e1, lookup_no e2 h2, Γ, _, _, r1, h3, fun vs H2 ds ⟨hp, hq⟩ q => ?_⟩
    show spN C.K pre post (V.ref b :: (vs ++ [])) H2 Q E0
    rw [List.append_nil]
    exact meth_goN hp hq ans q⟩⟩
theorem oe_meth0 {pl : Sem Bool} (F : FnG X.prog X.w X.K X.mg X.base CX0 k f fd ps (spN C.K pre post)) (hk : C.K = X.K) (hst : Still X.base X.A) (hr : Room k X.A) (hm : Meth X.K c m f) (hb : Binds X.K fd ps []) (ho : ED C X o a)
    (ht : eval (.Call (.Attribute o m apos) [] [] pos) X.env = (do
      let ov ← eval o X.env
      standAt apos.atName
      let (f, first) ← holding [ov] (getMethod ov m pl)
      callWith pos f first (backTo pos (starEach [] X.env)) (backToKw pos (keywordEach [] X.env))) := by rfl) (cl : ClsK C.K c) :
    OE C X (.Call (.Attribute o m apos) [] [] pos) (dMeth c m pre post a dNil) :=
  ⟨(pe_meth0G (pl := pl) ho.pe (by rw [← hk]; exact cl.cl) hm F hst hr hb .nil (pass0 (X := X)) ht).weak fun σ H Q ⟨Γ, Ts, κ, r, h, ans⟩ => ⟨Γ, Ts, _, r, h, fun v H1 d ⟨⟨fs, h1, h2⟩, hp, hq⟩ r1 => by
    subst h1
    obtain ⟨b, dx, kvs, rfl, e1, e2, e3, _⟩ := rd_obj r1.top
    exact ⟨b, dx, kvs, rfl, hid_full _ _ e1, lookup_no e2 h2, meth_goN hp hq ans ⟨r1, .nil⟩⟩⟩⟩
end
/-! for x in [a, b]: both of them new, so that x may be changed -/
def sForO2 (i : Nat) (a b : DE) (tb : DS) : DS := fun O Γ => a Γ fun d1 => b Γ fun d2 =>
  tb { nx := fun Γ1 => tb { nx := O.nx, rt := O.rt, bk := O.nx, ct := O.nx } (Γ1.set i (some (.own d2))), rt := O.rt, bk := O.nx, ct := fun Γ1 => tb { nx := O.nx, rt := O.rt, bk := O.nx, ct := O.nx } (Γ1.set i (some (.own d2))) } (Γ.set i (some (.own d1)))
section
variable {C : Cq} {X : Cx}
theorem sd_forO2 {i : Nat} {x : Str} {e1 e2 : Expr} {a b : DE} {body : List Stmt} {tb : DS} {xp lp pos : Pos} (hp : PassesOwn (model X.prog X.w) X.A X.env X.xe) (hc : X.calm = true) (hN : X.N.Nodup) (hi : X.N[i]? = some x) (hx : Loc X.env.scope x) (ha : OE C X e1 a) (hb : OE C X e2 b)
    (hbody : ∀ (S0 : Addr → Prop) (H0 : Hp), SSD ⟨C.K, C.bg, C.bl, S0, H0⟩ X body tb) (hk : C.K = X.K) (hf : X.fn x = true ∨ X.env.scope.names.lookup x = some .local := by first | exact .inl rfl | exact .inr rfl | assumption)
    (hs : ∀ z, foldedSetIterable (.List [e1, e2] lp) X.env z = pure z := by intro _; rfl) (h1 : starEach [e1, e2] X.env = (false, eval e1 X.env) :: starEach [e2] X.env := by rfl) (h2 : starEach [e2] X.env = (false, eval e2 X.env) :: starEach [] X.env := by rfl) :
    SD C X (.For (.Name x xp) (.List [e1, e2] lp) body [] pos) (sForO2 i a b tb) := by
  have P0 := ps_for (tb := anyS C.K C.bg C.bl tb) (pos := pos) hp hc (pi_list (pe_lst (pos := lp) (pa_cons ha.pe (pa_cons hb.pe pa_nil h2) h1))) (pg_name (pos := xp) (i := i) hN hi hx hf) (ss_any hbody) hs
  refine ⟨P0.weak fun D' σ H ⟨Γ, Ts, O, r, h, n, q, _, _⟩ => ⟨Γ, Ts, _, r, h, fun v1 H1 d1 z1 r1 => ⟨Γ, _, _, r1, z1, fun v2 H2 d2 z2 r2 => ⟨by show 2 ≤ sizeLine; decide, fun p hp' => ⟨p, rfl, ⟨_, SqL.of upd_same⟩, ?_⟩⟩⟩⟩⟩
  have r3 : RS C σ (upd H2 p (.lst [v1, v2])) Γ ((v2, .own d2) :: (v1, .own d1) :: Ts) := r2.grow (upd_keep hp')
  have np : p ∉ owns ((v2, B.own d2) :: (v1, .own d1) :: Ts ++ pairs σ Γ) := fun z => (r2.rel.own p z).2.2 hp'
  have nb : C.bg ≠ some p := fun z => by
    obtain ⟨_, _, hB⟩ := r2.rel.bag p z
    obtain ⟨_, _, _, _, e, _⟩ := hB
    rw [hp'] at e
    cases e
  obtain ⟨C1, hC1⟩ : ∃ C1 : Cq, C1 = ⟨C.K, C.bg, C.bl, C.S0, DL.now ((v2, B.own d2) :: (v1, .own d1) :: Ts ++ pairs σ Γ) (upd H2 p (.lst [v1, v2]))⟩ := ⟨_, rfl⟩
  have r4 : RS C1 σ (upd H2 p (.lst [v1, v2])) Γ ((v2, .own d2) :: (v1, .own d1) :: Ts) := by rw [hC1]; exact r3.now
  have back : ∀ {σ' : L2.St} {H' : Hp} {Γ' : G} {Us : List (V × B)}, RS C1 σ' H' Γ' Us → RS C σ' H' Γ' Us := fun z => r3.back (by rw [hC1] at z; exact z)
  have kc : C1.K = C.K := by rw [hC1]
  have at_ : ∀ {σ' : L2.St} {H' : Hp} {Γ' : G} {Us : List (V × B)}, RS C1 σ' H' Γ' Us → SqL X.K H' p [v1, v2] := fun {σ' H' Γ' Us} z => SqL.of (z.rel.same p _ (by rw [hC1]; exact nb) (by
    rw [hC1]
    show DL.now _ _ p = _
    rw [now_out np, upd_same]))
  have gen : ∀ {O' : Out} {σ' : L2.St} {H' : Hp} {Γ' : G} {Us : List (V × B)} {D : Ends}, RS C1 σ' H' Γ' Us → tb O' Γ' → (∀ σ2 H3 Γ2, O'.nx Γ2 → RS C1 σ2 H3 Γ2 Us → D.nx σ2 H3) → RetOk C1 O'.rt D.rt → (∀ σ2 H3 Γ2, O'.bk Γ2 → RS C1 σ2 H3 Γ2 Us → D.bk σ2 H3) → (∀ σ2 H3 Γ2, O'.ct Γ2 → RS C1 σ2 H3 Γ2 Us → D.ct σ2 H3) → anyS C.K C.bg C.bl tb D σ' H' := fun {O' σ' H' Γ' Us D} z1 z2 z3 z4 z5 z6 => by
    refine ⟨C1.S0, C1.H0, ?_⟩
    have eC : (⟨C.K, C.bg, C.bl, C1.S0, C1.H0⟩ : Cq) = C1 := by rw [hC1]
    rw [eC]
    exact ⟨Γ', Us, O', z1, z2, z3, z4, z5, z6⟩
  have rtq : RetOk C1 O.rt D'.rt := fun v H' d σ' Γ' hd rk => q v H' d σ' Γ' hd (back rk)
  refine ⟨fun i' m σ' H' => (i' = 0 ∧ m = 2 ∧ ∃ Γ', RS C1 σ' H' Γ' ((v2, .own d2) :: (v1, .own d1) :: Ts) ∧ tb { nx := fun Γ1 => tb { nx := O.nx, rt := O.rt, bk := O.nx, ct := O.nx } (Γ1.set i (some (.own d2))), rt := O.rt, bk := O.nx, ct := fun Γ1 => tb { nx := O.nx, rt := O.rt, bk := O.nx, ct := O.nx } (Γ1.set i (some (.own d2))) } (Γ'.set i (some (.own d1)))) ∨
    (i' = 1 ∧ m = 1 ∧ ∃ Γ1, RS C1 σ' H' Γ1 ((v2, .own d2) :: Ts) ∧ tb { nx := O.nx, rt := O.rt, bk := O.nx, ct := O.nx } (Γ1.set i (some (.own d2)))) ∨ (i' = 2 ∧ m = 0 ∧ ∃ Γ2, RS C1 σ' H' Γ2 Ts ∧ O.nx Γ2), ⟨2, .inl ⟨rfl, rfl, Γ, r4, z2⟩⟩, ?_⟩
  rintro i' m σ' H' (⟨rfl, rfl, Γ', w1, w2⟩ | ⟨rfl, rfl, Γ', w1, w2⟩ | ⟨rfl, rfl, Γ', w1, w2⟩)
  · refine .inr ⟨⟨_, v1, at_ w1, rfl⟩, fun σ2 H3 => ∃ Γ1, RS C1 σ2 H3 Γ1 ((v2, .own d2) :: Ts) ∧ tb { nx := O.nx, rt := O.rt, bk := O.nx, ct := O.nx } (Γ1.set i (some (.own d2))), fun σ2 H3 z => ⟨1, by omega, .inr (.inl ⟨rfl, rfl, z⟩)⟩, fun y H3 ⟨e, hy⟩ => ?_⟩
    have ey := hy _ (at_ w1)
    cases ey
    rw [e]
    refine gen ((w1.sub Sub.swap).set i) w2 (fun σ2 H4 Γ2 z rk => ⟨Γ2, rk, z⟩) rtq (fun σ2 H4 Γ2 z rk => n σ2 H4 Γ2 z (back (rk.sub Sub.tail))) (fun σ2 H4 Γ2 z rk => ⟨Γ2, rk, z⟩)
  · refine .inr ⟨⟨_, v2, at_ w1, rfl⟩, fun σ2 H3 => ∃ Γ2, RS C1 σ2 H3 Γ2 Ts ∧ O.nx Γ2, fun σ2 H3 z => ⟨0, by omega, .inr (.inr ⟨rfl, rfl, z⟩)⟩, fun y H3 ⟨e, hy⟩ => ?_⟩
    have ey := hy _ (at_ w1)
    cases ey
    rw [e]
    refine gen (w1.set i) w2 (fun σ2 H4 Γ2 z rk => ⟨Γ2, rk, z⟩) rtq (fun σ2 H4 Γ2 z rk => n σ2 H4 Γ2 z (back rk)) (fun σ2 H4 Γ2 z rk => ⟨Γ2, rk, z⟩)
  · exact .inl ⟨⟨_, at_ w1, Nat.le_refl 2⟩, n σ' H' Γ' w2 (back w1)⟩
end
end DL

namespace DL
open PySem PySem.Spec PyProof.Rows L2
/-! ### dict(xs), xs a list of pairs whose firsts are tuples -/
abbrev TEnt := List Key × Addr × Value
theorem stored_at {acc : List TEnt} {k : List Key} {a : Addr} {v : Value} {x : TEnt} (h : x ∈ storedH acc k a v) : x.2.1 = a ∨ ∃ y ∈ acc, y.2.1 = x.2.1 := by
  unfold storedH at h
  split at h
  · obtain ⟨y, hy, rfl⟩ := List.mem_map.mp h
    refine .inr ⟨y, hy, ?_⟩
    unfold putAt
    split <;> rfl
  · rcases List.mem_append.mp h with h | h
    · exact .inr ⟨x, h, rfl⟩
    · rw [List.mem_singleton.mp h]
      exact .inl rfl
theorem stored_len {acc : List TEnt} {k : List Key} {a : Addr} {v : Value} : (storedH acc k a v).length ≤ acc.length + 1 := by
  unfold storedH
  split
  · rw [List.length_map]
    omega
  · rw [List.length_append, List.length_singleton]
    omega
theorem mt_same {P : Program} {w : World} {h h' : Heap} {k : List Key} {b : Addr} (x : MT P w h k b) (e : ∀ o, h.get? b = some o → h'.get? b = some o) : MT P w h' k b := by
  obtain ⟨o, items, n, ho, r⟩ := x
  exact ⟨o, items, n, e o ho, r⟩
theorem dict_same {P : Program} {w : World} {h h' : Heap} {Dd : Addr} {acc : List TEnt} (x : h.DictOfH (tupleKind (mixKind P w)) Dd acc) (eS : ∀ o, h.get? Dd = some o → h'.get? Dd = some o) (eK : ∀ y ∈ acc, ∀ o, h.get? y.2.1 = some o → h'.get? y.2.1 = some o) : h'.DictOfH (tupleKind (mixKind P w)) Dd acc := by
  obtain ⟨o, es, ep, ho, h1, h2, h3, h4, h5⟩ := x
  exact ⟨o, es, ep, eS o ho, h1, h2, h3, fun y hy => mt_same (h4 y hy) (eK y hy), h5⟩
section
variable {P : Program} {w : World} {A : Around} {E : Value → Shared → Prop}
theorem fill_loop {R : Result → Shared → Prop} {Dd J l : Addr} {items : Array Value} {res : Value} (hh : A.handled = none) (hu : (tupleKind (mixKind P w)).room A.in1) (nlI : l ≠ J) (nSI : Dd ≠ J) (nSl : Dd ≠ l) :
    ∀ (rest : List TEnt) (i : Nat) (acc : List TEnt) (ix : Int) (t : Tok) (s : Shared), items.size = i + rest.length → acc.length + rest.length ≤ sizeLine →
      (∀ (j : Nat) (q : TEnt), rest[j]? = some q → ∃ b : Addr, items[i + j]? = some (.ref b) ∧ b ≠ Dd ∧ b ≠ J ∧ q.2.1 ≠ Dd ∧ q.2.1 ≠ J ∧ IsTup s.heap b #[.ref q.2.1, q.2.2] ∧ MT P w s.heap q.1 q.2.1) →
      s.heap.IsListIter J l i → s.heap.IsList l items → s.heap.DictOfH (tupleKind (mixKind P w)) Dd acc → (∀ y ∈ acc, y.2.1 ≠ Dd ∧ y.2.1 ≠ J) →
      (∀ h' tk, h'.DictOfH (tupleKind (mixKind P w)) Dd (rest.foldl (fun acc q => storedH acc q.1 q.2.1 q.2.2) acc) → (∀ b o, b ≠ Dd → b ≠ J → s.heap.get? b = some o → h'.get? b = some o) → R (.ok (.ret res)) { s with heap := h', toks := tk }) →
      codeAny (model P w) A (.builtin "dict.update.loop" ⟨[.ref Dd, .ref J, .int ix t, res], []⟩) R s
  | [], i, acc, ix, t, s, sz, ln, at_, it, isl, dd, na, fin => by
    refine codeAny_builtin ud_entry ?_; rw [Around.under_plainId ud_plain _]
    show wpAny _ A.in1 (pyNext (.ref J) >>= _) _ _ s
    refine wpAny_bind (wpAny_pyNext_list_end (A := A.in1) hh it isl (Array.getElem?_eq_none (by rw [sz]; exact Nat.le_refl _)) fun h' he => ?_)
    show wpAny _ A.in1 (Builtin.Dict.addKeywords Dd [] >>= _) _ _ _
    exact wpAny_bind (wpAny_pure (wpAny_pure (fin h' s.toks (dict_same dd (fun o e => he Dd o nSI e) fun y hy o e => he _ o (na y hy).2 e) fun b o _ hb e => he b o hb e)))
  | q :: rest, i, acc, ix, t, s, sz, ln, at_, it, isl, dd, na, fin => by
    obtain ⟨b, hb, bS, bI, kS, kI, tup, key⟩ := at_ 0 q rfl
    rw [List.length_cons] at sz ln
    refine codeAny_builtin ud_entry ?_; rw [Around.under_plainId ud_plain _]
    show wpAny _ A.in1 (pyNext (.ref J) >>= _) _ _ s
    refine wpAny_bind (wpAny_pyNext_list_item (x := .ref b) it isl (by simpa using hb) fun h1 it1 hs1 => ?_)
    have up : ∀ c o, c ≠ J → s.heap.get? c = some o → h1.get? c = some o := fun c o n e => hs1.extBut c o n e
    have tup1 : IsTup h1 b #[.ref q.2.1, q.2.2] := tup.extBut hs1.extBut bI
    have isl1 : h1.IsList l items := isl.extBut hs1.extBut nlI
    have dd1 : h1.DictOfH (tupleKind (mixKind P w)) Dd acc := dict_same dd (fun o e => up Dd o nSI e) fun y hy o e => up _ o (na y hy).2 e
    have key1 : MT P w h1 q.1 q.2.1 := mt_same key fun o e => up _ o kI e
    obtain ⟨ob, hob, hoc, n, hod⟩ := id tup1
    show wpAny (model P w) A.in1 (holding [Value.ref b] _ >>= _) _ _ _
    refine wpAny_bind (wpAny_holding (wpAny_bind (wpAny_tryCatch ?_)))
    unfold Builtin.Dict.pairItems
    refine wpAny_bind (wpAny_typeOf (T := "tuple") ⟨ob, hob, hoc⟩ ?_)
    rw [if_pos (by first | rfl | decide | simp)]; refine wpAny_bind (wpAny_seqItems hob hod (wpAny_pure ?_))
    show wpAny _ A.in1 (holding [.ref q.2.1, q.2.2] (dictSet Dd (.ref q.2.1) q.2.2)) _ _ _
    refine wpAny_holding (wpAny_dictSet_heap (hsz := by omega) hu key1 dd1 fun h2 dd2 hs2 => ?_)
    have up2 : ∀ c o, c ≠ Dd → h1.get? c = some o → h2.get? c = some o := fun c o n e => hs2.extBut c o n e
    have sl := stored_len (acc := acc) (k := q.1) (a := q.2.1) (v := q.2.2)
    refine wpAny_pure ⟨plainId_quiet ud_plain _, fill_loop (items := items) hh hu nlI nSI nSl rest (i + 1) (storedH acc q.1 q.2.1 q.2.2) (ix + 1) 0 _ (by rw [sz]; omega) (by omega) (fun j q' e => ?_) ?_ ?_ dd2 (fun y hy => ?_) fun h' tk d' k => ?_⟩
    · obtain ⟨b', f1, f2, f3, f4, f5, f6, f7⟩ := at_ (j + 1) q' (by simpa using e)
      refine ⟨b', ?_, f2, f3, f4, f5, (f6.extBut hs1.extBut f3).extBut hs2.extBut f2, mt_same f7 fun o e => up2 _ o f4 (up _ o f5 e)⟩
      rw [show i + 1 + j = i + (j + 1) from by omega]
      exact f1
    · exact it1.at fun o' e => up2 J o' (Ne.symm nSI) e
    · exact isl1.extBut hs2.extBut (Ne.symm nSl)
    · rcases stored_at hy with z | ⟨y', hy', z⟩
      · rw [z]
        exact ⟨kS, kI⟩
      · rw [← z]
        exact na y' hy'
    · exact fin h' tk d' fun c oc h3 h4 e => k c oc h3 h4 (up2 c oc h3 (up c oc h4 e))
theorem dict_pairs {s : Shared} {l : Addr} {lob : Obj} {items : Array Value} {n : Nat} {prs : List TEnt} {Q : Value → Shared → Prop} (hh : A.handled = none) (hu : (tupleKind (mixKind P w)).room A.in1.in1) (hl : s.heap.get? l = some lob) (hc : lob.cls = .type "list") (hd : lob.dict = none)
    (hdat : lob.data = .seq items n) (sz : items.size = prs.length) (ln : prs.length ≤ sizeLine)
    (at_ : ∀ (j : Nat) (q : TEnt), prs[j]? = some q → ∃ b : Addr, items[j]? = some (.ref b) ∧ IsTup s.heap b #[.ref q.2.1, q.2.2] ∧ MT P w s.heap q.1 q.2.1)
    (fin : ∀ h' tk, h'.DictOfH (tupleKind (mixKind P w)) s.heap.objs.size (prs.foldl (fun acc q => storedH acc q.1 q.2.1 q.2.2) []) → (∀ b o, s.heap.get? b = some o → h'.get? b = some o) → Q (.ref s.heap.objs.size) { s with heap := h', toks := tk }) :
    wpAny (model P w) A (call (.type "dict") [.ref l]) Q E s := by
  refine callType_codes (Q₁ := fun obj s1 => obj = .ref s.heap.objs.size ∧ s1 = { s with heap := s.heap.push { cls := .type "dict", data := .dict #[] } }) PySem.F.kt_called_dict (PySem.F.kt_typeCall_dict_1 _) PySem.F.entry_dict_init (kt_code_dict_new _ ⟨rfl, rfl⟩) ?_
  rintro obj s1 ⟨rfl, rfl⟩
  have new : (s.heap.push { cls := .type "dict", data := .dict #[] }).DictOfH (tupleKind (mixKind P w)) s.heap.objs.size [] := Heap.DictOfH.new s.heap
  have g0 : ∀ b o, s.heap.get? b = some o → (s.heap.push { cls := .type "dict", data := .dict #[] }).get? b = some o := fun b o e => Heap.get?_push_of_some _ e
  have isD : Shared.TypeIs { s with heap := s.heap.push { cls := .type "dict", data := .dict #[] } } (.ref s.heap.objs.size) "dict" := Heap.DictOfH.typeIs (s := { s with heap := s.heap.push { cls := .type "dict", data := .dict #[] } }) new
  refine ⟨isD, PySem.F.args_dict_init_2 _ _, ?_⟩
  unfold Builtin.«dict.__init__»; refine wpAny_bind ?_
  unfold Builtin.Dict.selfAndRest; refine wpAny_bind (wpAny_notOrdered_dict isD ?_)
  show wpAny (model P w) _ (pure (s.heap.objs.size, [Value.ref l])) _ _ _; refine wpAny_pure ?_
  show wpAny (model P w) _ (Builtin.Dict.updateFrom "dict.__init__" s.heap.objs.size (.ref l) [] .none) _ _ _
  unfold Builtin.Dict.updateFrom; refine wpAny_bind (wpAny_typeOf (T := "list") ⟨lob, g0 _ _ hl, hc⟩ ?_)
  rw [if_pos (by first | rfl | decide | simp)]; refine wpAny_bind (miss_list (g0 _ _ hl) hc hdat hd hh fun h1 tk1 k1 => ?_)
  rw [if_pos (show (none : Option Value).isNone = true from rfl)]; refine wpAny_bind (wpAny_rule ?_)
  have isl1 : h1.IsList l items := ⟨lob, k1 _ _ (g0 _ _ hl), hc, n, hdat⟩
  have lS : s.heap.objs.size < h1.objs.size := by
    have e0 : (s.heap.push { cls := .type "dict", data := .dict #[] }).get? s.heap.objs.size = some { cls := .type "dict", data := .dict #[] } := Heap.get?_push_size _ rfl
    exact Heap.lt_size (k1 _ _ e0)
  refine wpAny_bind (wpAny_pyIter_list isl1 ?_)
  have g2 : ∀ b o, h1.get? b = some o → (h1.push { cls := .type "list_iterator", data := .fields #[.ref l, .int 0 0] }).get? b = some o := fun b o e => Heap.get?_push_of_some _ e
  have ll : l < s.heap.objs.size := Heap.lt_size hl
  have whole := fill_loop (P := P) (w := w) (A := A.in1) (R := wants (fun r s2 => r = .none ∧ Q (.ref s.heap.objs.size) s2) E) (Dd := s.heap.objs.size) (J := h1.objs.size) (l := l) (items := items) (res := Value.none) hh hu
    (Nat.ne_of_lt (Nat.lt_trans ll lS)) (Nat.ne_of_lt lS) (Nat.ne_of_gt ll) prs 0 [] 0 0
    { s with heap := h1.push { cls := .type "list_iterator", data := .fields #[.ref l, .int 0 0] }, toks := tk1 } (by rw [sz, Nat.zero_add]) (by rw [List.length_nil, Nat.zero_add]; exact ln)
    (fun j q e => by
      obtain ⟨b, e1, e2, e3⟩ := at_ j q e
      have lb : b < s.heap.objs.size := e2.lt
      have hq : q.2.1 < s.heap.objs.size := let ⟨o, _, _, ho, _⟩ := e3; Heap.lt_size ho
      exact ⟨b, by rw [Nat.zero_add]; exact e1, Nat.ne_of_lt lb, Nat.ne_of_lt (Nat.lt_trans lb lS), Nat.ne_of_lt hq, Nat.ne_of_lt (Nat.lt_trans hq lS), e2.keeps fun c o z => g2 _ _ (k1 _ _ (g0 _ _ z)), mt_same e3 fun o z => g2 _ _ (k1 _ _ (g0 _ _ z))⟩)
    ⟨_, Heap.get?_push_size _ rfl, rfl, rfl⟩ (isl1.at fun o e => g2 _ _ e) (dict_same new (fun o e => g2 _ _ (k1 _ _ e)) fun y hy => (by cases hy)) (fun y hy => by cases hy)
    (fun h' tk d' k => ⟨rfl, fin h' tk d' fun b o e => k b o (Nat.ne_of_lt (Heap.lt_size e)) (Nat.ne_of_lt (Nat.lt_trans (Heap.lt_size e) lS)) (g2 _ _ (k1 _ _ (g0 _ _ e)))⟩)
  first
    | exact wpAny_pure ⟨plainId_quiet ud_plain _, whole⟩
    | exact wpAny_bind (wpAny_pure (wpAny_pure ⟨plainId_quiet ud_plain _, whole⟩))
end
abbrev TRow := List Key × Addr × V
def joinT (kvs : List (List Key × V)) (ents : List TRow) : List (List Key × V) := ents.foldl (fun a e => putK a e.1 e.2.2) kvs
def joinG (kds : List (List Key × D)) (ents : List (List Key × D)) : List (List Key × D) := ents.foldl (fun a e => putG a e.1 e.2) kds
theorem join_len : ∀ (ents : List TRow) (kvs : List (List Key × V)), (joinT kvs ents).length ≤ kvs.length + ents.length
  | [], _ => Nat.le_refl _
  | e :: ents, kvs => by
    have h1 := join_len ents (putK kvs e.1 e.2.2)
    have h2 := length_putK kvs e.1 e.2.2
    show (joinT (putK kvs e.1 e.2.2) ents).length ≤ _
    rw [List.length_cons]
    omega
def rPairsT (K : PySem.W.Frag) : List V → Hp → VK → Prop := fun xs H Q => ∃ (a : Addr) (ps : List Addr) (ents : List TRow), xs = [.ref a] ∧ SqL K H a (ps.map V.ref) ∧ Paired (fun p e => H p = some (.tup [.ref e.2.1, e.2.2]) ∧ H e.2.1 = some (.tup (e.1.map kV))) ps ents ∧
  ∀ p, H p = none → Q (.ref p) (upd H p (.dT (joinT [] ents)))
section
variable {X : Cx}
theorem ents_of {pins : List (Addr × Obj)} {σ : L2.St} {H : Hp} {s : Shared} (I : Inv X pins σ H s) : ∀ {ps : List Addr} {ents : List TRow}, Paired (fun p e => H p = some (.tup [.ref e.2.1, e.2.2]) ∧ H e.2.1 = some (.tup (e.1.map kV))) ps ents →
    ∃ prs : List TEnt, Paired (fun (e : TRow) (q : TEnt) => q.1 = e.1 ∧ q.2.1 = e.2.1 ∧ RelV e.2.2 q.2.2 ∧ H e.2.1 = some (.tup (e.1.map kV))) ents prs ∧ prs.length = ps.length ∧ ∀ (j : Nat) (q : TEnt), prs[j]? = some q → ∃ b, ps[j]? = some b ∧ IsTup s.heap b #[.ref q.2.1, q.2.2] ∧ MT X.prog X.w s.heap q.1 q.2.1
  | _, _, .nil => ⟨[], .nil, rfl, fun j q e => by simp at e⟩
  | _, _, .cons (a := p) (b := e) h t => by
    obtain ⟨prs, r, hl, hp⟩ := ents_of I t
    obtain ⟨its, rv, tup, _⟩ := I.tuple (SqT.of h.1)
    obtain ⟨u, y, ei, ru, ry⟩ := vals2 rv
    subst ei
    have eu : u = .ref e.2.1 := ru
    subst eu
    refine ⟨(e.1, e.2.1, y) :: prs, .cons ⟨rfl, rfl, ry, h.2⟩ r, by rw [List.length_cons, List.length_cons, hl], fun j q z => ?_⟩
    cases j with
    | zero =>
      have z' : (e.1, e.2.1, y) = q := Option.some.inj z
      subst z'
      exact ⟨p, rfl, tup, key_of I.hok h.2⟩
    | succ j =>
      obtain ⟨b, e1, e2⟩ := hp j q (by simpa using z)
      exact ⟨b, by simpa using e1, e2⟩
theorem join_KT {H : Hp} : ∀ {ents : List TRow} {prs : List TEnt} {kvs : List (List Key × V)} {acc : List TEnt}, Paired (fun (e : TRow) (q : TEnt) => q.1 = e.1 ∧ q.2.1 = e.2.1 ∧ RelV e.2.2 q.2.2 ∧ H e.2.1 = some (.tup (e.1.map kV))) ents prs → KT H kvs acc →
    KT H (joinT kvs ents) (prs.foldl (fun a q => storedH a q.1 q.2.1 q.2.2) acc)
  | _, _, _, _, .nil, r => r
  | _, _, _, _, .cons h t, r => by
    obtain ⟨h1, h2, h3, h4⟩ := h
    have r' := r.put _ h4 h3
    rw [← h2, ← h1] at r'
    have e := join_KT t r'
    rw [h1] at e
    rw [← h1] at e
    refine (by
      rw [h1] at e
      rw [List.foldl_cons, h1]
      exact e)
theorem call_pairsT (hc : X.calm = true) (hu : X.A.units + 3 < cLine) : CallR X (.type "dict") (rPairsT X.K) := by
  intro pins s σ H xs us Q I r ⟨a, ps, ents, ex, hq, hp, q⟩
  subst ex
  obtain ⟨u, rfl, rx⟩ := vals1 r
  cases rx
  obtain ⟨its, rv, pl, hz⟩ := I.list hq
  have ei := refs_at rv
  subst ei
  rw [List.length_map] at hz
  obtain ⟨prs, rel, hl, at_⟩ := ents_of I hp
  obtain ⟨o, n, ho, hoc, hod, hdat⟩ := pl
  have le : ents.length = prs.length := Paired.length rel
  refine dict_pairs (prs := prs) (I.ok.hd hc) (show X.A.in1.in1.units < cLine from by show X.A.units + 1 + 1 < cLine; omega) ho hoc hod hdat (by simp [hl]) (by rw [hl]; exact hz) (fun j q' e => ?_) fun h' tk dd k => ?_
  · obtain ⟨b, e1, e2, e3⟩ := at_ j q' e
    exact ⟨b, by simp [e1], e2, e3⟩
  · have hm : (s.heap.objs.size == sysModules) = false := beq_eq_false_iff_ne.mpr (Nat.ne_of_gt I.big)
    have ln : (joinT [] ents).length ≤ sizeLine := by
      have := join_len ents []
      rw [List.length_nil, Nat.zero_add, le, hl] at this
      exact Nat.le_trans this hz
    have nS : H s.heap.objs.size = none := I.hok.fresh (Nat.le_refl _)
    obtain ⟨ob, es, ep, g1, g2, g3, g4, _, g5⟩ := dd
    refine ⟨.ref s.heap.objs.size, upd H s.heap.objs.size (.dT (joinT [] ents)), I.laid (t' := tk) k (Nat.le_refl _) ⟨ln, hm, _, (join_KT rel .nil).keeps fun c ys ec => ?_, ob, es, ep, g1, g2, g3, g4, g5⟩, rfl, q _ nS⟩
    rw [upd_ne (ne_of_none ec nS)]
    exact ec
end
/-! the same of data -/
def pairT (p : List Key × D) : D := .tup [.tup (p.1.map keyD), p.2]
def fPairsT : FB := fun ds k => ∃ kds : List (List Key × D), ds = [.lst (kds.map pairT)] ∧ k (.dT (joinG [] kds))
theorem ents_rp {K : PySem.W.Frag} {H : Hp} : ∀ {xs : List V} {kds : List (List Key × D)}, RpA K H xs (kds.map pairT) → ∃ (ps : List Addr) (ents : List TRow), xs = ps.map V.ref ∧ Paired (fun p e => H p = some (.tup [.ref e.2.1, e.2.2]) ∧ H e.2.1 = some (.tup (e.1.map kV))) ps ents ∧ ents.map (·.1) = kds.map (·.1) ∧ RpA K H (ents.map (·.2.2)) (kds.map (·.2))
  | [], [], _ => ⟨[], [], rfl, .nil, rfl, .nil⟩
  | [], _ :: _, h => by
    rw [List.map_cons] at h
    cases h
  | _ :: _, [], h => by
    rw [List.map_nil] at h
    cases h
  | x :: xs, q :: kds, h => by
    rw [List.map_cons] at h
    cases h with
    | cons h1 h2 =>
      obtain ⟨ps, ents, rfl, p1, p2, p3⟩ := ents_rp h2
      unfold pairT at h1
      cases h1 with
      | @tup a us _ e r =>
        cases r with
        | @cons u _ _ _ r1 r2 =>
          cases r2 with
          | @cons y _ _ _ r3 r4 =>
            cases r4
            obtain ⟨b, rfl, eb⟩ := key_at r1
            exact ⟨a :: ps, (q.1, b, y) :: ents, rfl, .cons ⟨e, eb⟩ p1, by simp [p2], .cons r3 p3⟩
theorem join_rp {K : PySem.W.Frag} {H : Hp} : ∀ {ents : List TRow} {kds : List (List Key × D)} {kvs : List (List Key × V)} {acc : List (List Key × D)}, ents.map (·.1) = kds.map (·.1) → RpA K H (ents.map (·.2.2)) (kds.map (·.2)) → kvs.map (·.1) = acc.map (·.1) → RpA K H (kvs.map (·.2)) (acc.map (·.2)) →
    (joinT kvs ents).map (·.1) = (joinG acc kds).map (·.1) ∧ RpA K H ((joinT kvs ents).map (·.2)) ((joinG acc kds).map (·.2))
  | [], [], _, _, _, _, h1, h2 => ⟨h1, h2⟩
  | [], _ :: _, _, _, e, _, _, _ => by simp at e
  | _ :: _, [], _, _, e, _, _, _ => by simp at e
  | e :: ents, q :: kds, kvs, acc, h0, r, h1, h2 => by
    simp only [List.map_cons, List.cons.injEq] at h0
    obtain ⟨e1, e2⟩ := h0
    cases r with
    | cons r1 r2 =>
      show (joinT (putK kvs e.1 e.2.2) ents).map (·.1) = (joinG (putG acc q.1 q.2) kds).map (·.1) ∧ RpA K H ((joinT (putK kvs e.1 e.2.2) ents).map (·.2)) ((joinG (putG acc q.1 q.2) kds).map (·.2))
      rw [e1]
      exact join_rp e2 r2 (put_keys h1 _ _ _) (put_vals h1 h2 _ r1)
section
variable {C : Cq}
theorem Paired.full {K : PySem.W.Frag} {S : Addr → Prop} {H : Hp} {ps : List Addr} {ents : List TRow} (h : Paired (fun p e => hid S H p = some (.tup [.ref e.2.1, e.2.2]) ∧ hid S H e.2.1 = some (.tup (e.1.map kV))) ps ents) : Paired (fun p e => H p = some (.tup [.ref e.2.1, e.2.2]) ∧ H e.2.1 = some (.tup (e.1.map kV))) ps ents :=
  Paired.imp (fun _ _ z => ⟨hid_full _ _ z.1, hid_full _ _ z.2⟩) h
theorem cc_pairsT : CallC C (rPairsT C.K) fPairsT := fun σ H Γ Ts vs ds k Q q ⟨kds, h0, hk⟩ ans => by
  subst h0
  obtain ⟨v, rfl, t⟩ := q.one
  cases t with
  | @lst a ys _ e q2 =>
    obtain ⟨ps, ents, rfl, p1, p2, p3⟩ := ents_rp q2
    obtain ⟨m1, m2⟩ := join_rp (kvs := []) (acc := []) p2 p3 rfl .nil
    refine ⟨a, ps, ents, rfl, SqL.of (hid_full _ _ e), Paired.full (K := C.K) p1, fun p hp => ans _ _ _ hk ((q.1.grow (upd_keep hp)).push ?_)⟩
    exact .dT (.inl (hid_mk (q.1.out hp) upd_same)) m1 (m2.mono (hid_mono (fun _ z => z) fun b o _ e => upd_keep hp b o e))
end
section
variable {C : Cq} {X : Cx}
theorem oe_pairsT {e : Expr} {t : DE} {p pos : Pos} (hk : C.K = X.K) (hc : X.calm = true) (hu : X.A.units + 3 < cLine) (ha : ED C X e t) (hg : Gl X "dict") (hm : X.mg "dict" = none) (he : starEach [e] X.env = (false, eval e X.env) :: starEach [] X.env := by rfl) (hpl : (backTo pos (starEach [] X.env)).any (·.1) = false := by rfl) :
    OE C X (.Call (.Name "dict" p) [e] [] pos) (dB fPairsT (dCons t dNil)) :=
  ⟨(pe_callTy (call_pairsT hc hu) hg hm (by decide +kernel) (ad_cons ha ad_nil (hs := he)).pa (by decide) (by decide) he hpl).weak fun σ H Q ⟨Γ, Ts, k, r, h, ans⟩ => ⟨Γ, Ts, _, r, h, fun vs H' ds ⟨kds, h0, hd⟩ q => by
    subst h0
    obtain ⟨v, rfl, t⟩ := q.one
    cases t with
    | @lst a ys _ e q2 =>
      obtain ⟨ps, ents, rfl, p1, p2, p3⟩ := ents_rp q2
      obtain ⟨m1, m2⟩ := join_rp (kvs := []) (acc := []) p2 p3 rfl .nil
      rw [← hk]
      exact ⟨a, ps, ents, rfl, SqL.of (hid_full _ _ e), Paired.full (K := C.K) p1, fun l hl => ans _ _ _ hd (q.1.newO hl (.dT upd_same m1 m2))⟩⟩⟩
end
end DL

namespace K11
open PySem L2 DL
def top (i : Nat) : Stmt := PySem.Challenge.pw_recipelayers_k11_kinds.main.body.getD i (.Pass ⟨0, 0, 0, 0⟩)
abbrev s_is_integer : Stmt := top 6
abbrev N_is_integer : List Str := ["thing"]
theorem sc_is_integer : FnScope N_is_integer ["thing"] (defScope s_is_integer) := ⟨rfl, rfl, rfl, by decide +kernel, rfl, by decide +kernel, by decide +kernel⟩
abbrev s_is_name : Stmt := top 7
abbrev N_is_name : List Str := ["thing", "letter"]
theorem sc_is_name : FnScope N_is_name ["thing"] (defScope s_is_name) := ⟨rfl, rfl, rfl, by decide +kernel, rfl, by decide +kernel, by decide +kernel⟩
abbrev s_is_path : Stmt := top 8
abbrev N_is_path : List Str := ["thing", "name"]
theorem sc_is_path : FnScope N_is_path ["thing"] (defScope s_is_path) := ⟨rfl, rfl, rfl, by decide +kernel, rfl, by decide +kernel, by decide +kernel⟩
abbrev s_is_text : Stmt := top 9
abbrev N_is_text : List Str := ["thing"]
theorem sc_is_text : FnScope N_is_text ["thing"] (defScope s_is_text) := ⟨rfl, rfl, rfl, by decide +kernel, rfl, by decide +kernel, by decide +kernel⟩
abbrev s_is_content : Stmt := top 10
abbrev N_is_content : List Str := ["thing"]
theorem sc_is_content : FnScope N_is_content ["thing"] (defScope s_is_content) := ⟨rfl, rfl, rfl, by decide +kernel, rfl, by decide +kernel, by decide +kernel⟩
abbrev s_are_parts : Stmt := top 11
abbrev N_are_parts : List Str := ["thing", "part"]
theorem sc_are_parts : FnScope N_are_parts ["thing"] (defScope s_are_parts) := ⟨rfl, rfl, rfl, by decide +kernel, rfl, by decide +kernel, by decide +kernel⟩
abbrev s_is_rights : Stmt := top 12
abbrev N_is_rights : List Str := ["thing"]
theorem sc_is_rights : FnScope N_is_rights ["thing"] (defScope s_is_rights) := ⟨rfl, rfl, rfl, by decide +kernel, rfl, by decide +kernel, by decide +kernel⟩
abbrev s_is_node : Stmt := top 13
abbrev N_is_node : List Str := ["thing"]
theorem sc_is_node : FnScope N_is_node ["thing"] (defScope s_is_node) := ⟨rfl, rfl, rfl, by decide +kernel, rfl, by decide +kernel, by decide +kernel⟩
abbrev s_is_entry : Stmt := top 14
abbrev N_is_entry : List Str := ["thing"]
theorem sc_is_entry : FnScope N_is_entry ["thing"] (defScope s_is_entry) := ⟨rfl, rfl, rfl, by decide +kernel, rfl, by decide +kernel, by decide +kernel⟩
abbrev s_is_tagged : Stmt := top 15
abbrev N_is_tagged : List Str := ["thing", "tag", "many"]
theorem sc_is_tagged : FnScope N_is_tagged ["thing", "tag", "many"] (defScope s_is_tagged) := ⟨rfl, rfl, rfl, by decide +kernel, rfl, by decide +kernel, by decide +kernel⟩
abbrev s__law_bag : Stmt := top 17
abbrev N__law_bag : List Str := ["_law_script", "_law_cell"]
theorem sc__law_bag : FnScope N__law_bag ["_law_script"] (defScope s__law_bag) := ⟨rfl, rfl, rfl, by decide +kernel, rfl, by decide +kernel, by decide +kernel⟩
abbrev s__law_take : Stmt := top 18
abbrev N__law_take : List Str := ["_law_bag_here", "_law_many", "_law_cell", "_law_drawn", "_law_begin", "_law_second"]
theorem sc__law_take : FnScope N__law_take ["_law_bag_here", "_law_many"] (defScope s__law_take) := ⟨rfl, rfl, rfl, by decide +kernel, rfl, by decide +kernel, by decide +kernel⟩
abbrev s__law_alike : Stmt := top 19
abbrev N__law_alike : List Str := ["_law_found", "_law_due"]
theorem sc__law_alike : FnScope N__law_alike ["_law_found", "_law_due"] (defScope s__law_alike) := ⟨rfl, rfl, rfl, by decide +kernel, rfl, by decide +kernel, by decide +kernel⟩
abbrev s__law_names : Stmt := top 20
abbrev N__law_names : List Str := ["_law_bag_here", "_law_many", "_law_letters", "_law_words", "_law_way", "_law_turn", "_law_base", "_law_k", "_law_at"]
theorem sc__law_names : FnScope N__law_names ["_law_bag_here", "_law_many"] (defScope s__law_names) := ⟨rfl, rfl, rfl, by decide +kernel, rfl, by decide +kernel, by decide +kernel⟩
abbrev s__law_text : Stmt := top 21
abbrev N__law_text : List Str := ["_law_bag_here", "_law_some"]
theorem sc__law_text : FnScope N__law_text ["_law_bag_here"] (defScope s__law_text) := ⟨rfl, rfl, rfl, by decide +kernel, rfl, by decide +kernel, by decide +kernel⟩
abbrev s__law_content : Stmt := top 22
abbrev N__law_content : List Str := ["_law_bag_here", "_law_deep", "_law_parts", "_law_k", "_law_part"]
theorem sc__law_content : FnScope N__law_content ["_law_bag_here", "_law_deep"] (defScope s__law_content) := ⟨rfl, rfl, rfl, by decide +kernel, rfl, by decide +kernel, by decide +kernel⟩
abbrev s__law_node : Stmt := top 23
abbrev N__law_node : List Str := ["_law_bag_here", "_law_deep", "_law_way", "_law_rights"]
theorem sc__law_node : FnScope N__law_node ["_law_bag_here", "_law_deep"] (defScope s__law_node) := ⟨rfl, rfl, rfl, by decide +kernel, rfl, by decide +kernel, by decide +kernel⟩
abbrev s__law_odd : Stmt := top 24
abbrev N__law_odd : List Str := ["_law_bag_here", "_law_deep", "_law_k", "_law_some"]
theorem sc__law_odd : FnScope N__law_odd ["_law_bag_here"] (defScope s__law_odd) := ⟨rfl, rfl, rfl, by decide +kernel, rfl, by decide +kernel, by decide +kernel⟩
abbrev s__law_spoiled : Stmt := top 25
abbrev N__law_spoiled : List Str := ["_law_bag_here", "_law_thing_here", "_law_way", "_law_at", "_law_sign", "_law_several"]
theorem sc__law_spoiled : FnScope N__law_spoiled ["_law_bag_here", "_law_thing_here"] (defScope s__law_spoiled) := ⟨rfl, rfl, rfl, by decide +kernel, rfl, by decide +kernel, by decide +kernel⟩
abbrev s__law_whole : Stmt := top 26
abbrev N__law_whole : List Str := ["_law_thing_here"]
theorem sc__law_whole : FnScope N__law_whole ["_law_thing_here"] (defScope s__law_whole) := ⟨rfl, rfl, rfl, by decide +kernel, rfl, by decide +kernel, by decide +kernel⟩
abbrev s__law_is_name : Stmt := top 27
abbrev N__law_is_name : List Str := ["_law_thing_here", "_law_letter"]
theorem sc__law_is_name : FnScope N__law_is_name ["_law_thing_here"] (defScope s__law_is_name) := ⟨rfl, rfl, rfl, by decide +kernel, rfl, by decide +kernel, by decide +kernel⟩
abbrev s__law_is_path : Stmt := top 28
abbrev N__law_is_path : List Str := ["_law_thing_here", "_law_name"]
theorem sc__law_is_path : FnScope N__law_is_path ["_law_thing_here"] (defScope s__law_is_path) := ⟨rfl, rfl, rfl, by decide +kernel, rfl, by decide +kernel, by decide +kernel⟩
abbrev s__law_is_text : Stmt := top 29
abbrev N__law_is_text : List Str := ["_law_thing_here"]
theorem sc__law_is_text : FnScope N__law_is_text ["_law_thing_here"] (defScope s__law_is_text) := ⟨rfl, rfl, rfl, by decide +kernel, rfl, by decide +kernel, by decide +kernel⟩
abbrev s__law_is_rights : Stmt := top 30
abbrev N__law_is_rights : List Str := ["_law_thing_here"]
theorem sc__law_is_rights : FnScope N__law_is_rights ["_law_thing_here"] (defScope s__law_is_rights) := ⟨rfl, rfl, rfl, by decide +kernel, rfl, by decide +kernel, by decide +kernel⟩
abbrev s__law_is_content : Stmt := top 31
abbrev N__law_is_content : List Str := ["_law_thing_here", "_law_part"]
theorem sc__law_is_content : FnScope N__law_is_content ["_law_thing_here"] (defScope s__law_is_content) := ⟨rfl, rfl, rfl, by decide +kernel, rfl, by decide +kernel, by decide +kernel⟩
abbrev s__law_is_node : Stmt := top 32
abbrev N__law_is_node : List Str := ["_law_thing_here"]
theorem sc__law_is_node : FnScope N__law_is_node ["_law_thing_here"] (defScope s__law_is_node) := ⟨rfl, rfl, rfl, by decide +kernel, rfl, by decide +kernel, by decide +kernel⟩
abbrev s__law_is_entry : Stmt := top 33
abbrev N__law_is_entry : List Str := ["_law_thing_here"]
theorem sc__law_is_entry : FnScope N__law_is_entry ["_law_thing_here"] (defScope s__law_is_entry) := ⟨rfl, rfl, rfl, by decide +kernel, rfl, by decide +kernel, by decide +kernel⟩
abbrev s__law_entry : Stmt := top 34
abbrev N__law_entry : List Str := ["_law_bag_here", "_law_rights"]
theorem sc__law_entry : FnScope N__law_entry ["_law_bag_here"] (defScope s__law_entry) := ⟨rfl, rfl, rfl, by decide +kernel, rfl, by decide +kernel, by decide +kernel⟩
abbrev s__law_nested : Stmt := top 35
abbrev N__law_nested : List Str := ["_law_bag_here", "_law_found", "_law_k"]
theorem sc__law_nested : FnScope N__law_nested ["_law_bag_here"] (defScope s__law_nested) := ⟨rfl, rfl, rfl, by decide +kernel, rfl, by decide +kernel, by decide +kernel⟩
abbrev s__law_thing : Stmt := top 36
abbrev N__law_thing : List Str := ["_law_bag_here", "_law_names_here", "_law_many", "_law_path", "_law_k", "_law_some"]
theorem sc__law_thing : FnScope N__law_thing ["_law_bag_here", "_law_names_here"] (defScope s__law_thing) := ⟨rfl, rfl, rfl, by decide +kernel, rfl, by decide +kernel, by decide +kernel⟩
abbrev s_law : Stmt := top 37
abbrev N_law : List Str := ["_law_script", "_law_bag_here", "_law_names_here", "_law_turn", "_law_thing_here", "_law_k", "_law_kept_text", "_law_dues", "_law_again", "_law_found"]
theorem sc_law : FnScope N_law ["_law_script"] (defScope s_law) := ⟨rfl, rfl, rfl, by decide +kernel, rfl, by decide +kernel, by decide +kernel⟩

def ABC : Str := "abcdefghijklmnopqrstuvwxyz"
def letD : D → Bool
  | .str s => match s.cps.toList with
    | [c] => decide (c ∈ ABC.cps.toList)
    | _ => false
  | _ => false
def wholeD : D → Bool
  | .int _ => true
  | _ => false
def nameD : D → Bool
  | .str s => decide (1 ≤ s.length) && decide (s.length ≤ 8) && (chD s).all letD
  | _ => false
def pathD : D → Bool
  | .tup ds => ds.all nameD
  | _ => false
def textD : D → Bool
  | .str s => decide (s.length ≤ 20)
  | _ => false
def rightsD : D → Bool
  | .int i => decide (0 ≤ i) && decide (i ≤ 7)
  | _ => false
/-- the first item of a tuple is this text -/
def headD (t : Str) : List D → Bool
  | .str s :: _ => s == t
  | _ => false
def tagD (t : Str) (n : Nat) : D → Bool
  | .tup ds => decide (ds.length = n) && headD t ds
  | _ => false
def partsD (c : D → Bool) : D → Bool
  | .tup ds => decide (ds.length ≤ 3) && ds.all fun p => p.isN || c p
  | _ => false
def itD (i : Nat) : D → D
  | .tup ds => ds.getD i .non
  | _ => .non
def contD : Nat → D → Bool
  | 0, _ => false
  | n + 1, d => textD d || (tagD "made" 3 d && nameD (itD 1 d) && partsD (contD n) (itD 2 d))
def nodeD (d : D) : Bool := if tagD "file" 3 d then contD 60 (itD 1 d) && rightsD (itD 2 d) else if tagD "link" 2 d then textD (itD 1 d) else tagD "folder" 2 d && rightsD (itD 1 d)
def entryD (d : D) : Bool := if tagD "folder" 2 d || tagD "opaque" 2 d then (itD 1 d).isN || rightsD (itD 1 d) else nodeD d || tagD "gone" 1 d || tagD "cleared" 1 d
/-- a thing as it is asked of here -/
def Ok (n : Nat) (d : D) : Prop := SFit n 200000 d
theorem Ok.le {n m : Nat} {d : D} (h : Ok n d) (hl : n ≤ m) : Ok m d := h.mono hl (Nat.le_refl _)
theorem Ok.noE {n : Nat} (h : Ok n .emp) : False := by
  have := h.1
  simp [D.good] at this
theorem Ok.up {n : Nat} {d : D} (h : Ok n d) : Ok (n + 1) d := h.le (Nat.le_succ _)
theorem Ok.item {n : Nat} {ds : List D} {d : D} (h : Ok (n + 1) (.tup ds)) (m : d ∈ ds) : Ok n d := by
  obtain ⟨c, hc, h⟩ := (SFit.tup.mp h).mem m
  exact h.mono (Nat.le_refl _) (by omega)
theorem Ok.item0 {n : Nat} {ds : List D} {d : D} (h : Ok n (.tup ds)) (m : d ∈ ds) : ∃ k, n = k + 1 ∧ Ok k d := by
  cases n with
  | zero =>
    have := h.2.2.2.1
    simp [D.py, PyData.depth] at this
  | succ n => exact ⟨n, rfl, h.item m⟩
theorem Ok.of {n : Nat} {ds : List D} {d : D} (h : Ok n (.tup ds)) (m : d ∈ ds) : Ok n d := by
  obtain ⟨k, rfl, h2⟩ := h.item0 m
  exact h2.up
theorem bulk_len : ∀ ds : List D, ds.length ≤ PyData.bulkAll (pyA ds)
  | [] => Nat.zero_le _
  | d :: ds => by
    have := bulk_len ds
    simp only [pyA, PyData.bulkAll, List.length_cons]
    omega
theorem Ok.tlen {n : Nat} {ds : List D} (h : Ok n (.tup ds)) : ds.length ≤ 200000 := by
  have h1 := h.2.2.2.2
  unfold D.py at h1
  simp only [PyData.bulk] at h1
  exact Nat.le_trans (bulk_len ds) h1
theorem Ok.slen {n : Nat} {s : Str} (h : Ok n (.str s)) : s.length ≤ 200000 := by
  have h1 := h.2.2.2.2
  unfold D.py at h1
  simp only [PyData.bulk] at h1
  exact h1
theorem Ok.len {n : Nat} {s : Str} (h : Ok n (.str s)) : s.length ≤ sizeLine := by
  have := h.slen
  have := sizeL
  omega
theorem Ok.cmpS {n : Nat} {s : Str} (h : Ok n (.str s)) : Cmp (.str s) := Cmp.str (by
  have := h.1
  simpa only [D.good] using this)
theorem ch_ok {s : Str} {d : D} (h : d ∈ chD s) : ∃ c, c ∈ s.cps.toList ∧ d = .str ⟨#[c]⟩ := by
  obtain ⟨c, hc, rfl⟩ := List.mem_map.mp h
  exact ⟨c, hc, rfl⟩
theorem ch_len {s : Str} : (chD s).length = s.length := by
  unfold chD
  rw [List.length_map, Array.length_toList]
  rfl
theorem map_bl (g : D → Bool) (ds : List D) : (ds.map fun d => D.bl (g d)) = (ds.map g).map D.bl := by rw [List.map_map]; rfl
theorem all_id (g : D → Bool) (ds : List D) : (ds.map g).all id = ds.all g := by rw [List.all_map]; rfl
theorem at_in {α : Type} {ds : List α} {i : Nat} (h : i < ds.length) : ∃ x, atI ds (i : Nat) = some x ∧ x ∈ ds ∧ ds[i]? = some x := by
  have e : ds[i]? = some ds[i] := List.getElem?_eq_getElem h
  exact ⟨ds[i], atI_nat e, List.getElem_mem h, e⟩
theorem cmpT {t : Str} (h : t.cps.all (· < 0x110000) = true) : Cmp (.str t) := Cmp.str h
theorem tag_tup {t : Str} {n : Nat} {d : D} (h : tagD t n d = true) : ∃ ds, d = .tup ds ∧ ds.length = n := by
  cases d with
  | tup ds =>
    simp only [tagD, Bool.and_eq_true, decide_eq_true_eq] at h
    exact ⟨ds, rfl, h.1⟩
  | _ => simp [tagD] at h
theorem tag_item {t : Str} {n m i : Nat} {d : D} (h : tagD t n d = true) (hd : Ok m d) (hi : i < n) : ixD d (i : Nat) = some (itD i d) ∧ ∃ k, m = k + 1 ∧ Ok k (itD i d) := by
  obtain ⟨ds, rfl, hl⟩ := tag_tup h
  obtain ⟨x, e, m, e2⟩ := at_in (ds := ds) (i := i) (by omega)
  have : itD i (.tup ds) = x := by
    show ds.getD i .non = x
    rw [List.getD_eq_getElem?_getD, e2]
    rfl
  rw [this]
  exact ⟨e, hd.item0 m⟩

theorem ask {n : Nat} {f : D → Bool} {x : D} {R : D → Prop} (h : Ok n x) (k : R (.bl (f x))) : (∃ d, [x] = [d] ∧ Ok n d) ∧ ∀ r, (∃ d, [x] = [d] ∧ r = .bl (f d)) → R r := by
  refine ⟨⟨x, rfl, h⟩, ?_⟩
  rintro r ⟨d, e, rfl⟩
  cases e
  exact k
theorem or_bl {b : Bool} {P Q : Prop} (h0 : b = false → P) (h1 : b = true → Q) : (D.bl b = .bl false ∧ P) ∨ (D.bl b = .bl true ∧ Q) := by
  cases b with
  | false => exact .inl ⟨rfl, h0 rfl⟩
  | true => exact .inr ⟨rfl, h1 rfl⟩
theorem ask_tag {n : Nat} {t : Str} {x : D} {R : D → Prop} (h : Ok 60 x) (hn : 0 < n) (ht : t.cps.all (· < 0x110000) = true) (k : R (.bl (tagD t n x))) :
    (∃ d t1, ∃ m : Nat, [x, .str t, .int n] = [d, .str t1, .int m] ∧ Ok 60 d ∧ 0 < m ∧ Cmp (.str t1)) ∧ ∀ r, (∃ d t1, ∃ m : Nat, [x, .str t, .int n] = [d, .str t1, .int m] ∧ r = .bl (tagD t1 m d)) → R r := by
  refine ⟨⟨x, t, n, rfl, h, hn, Cmp.str ht⟩, ?_⟩
  rintro r ⟨d, t1, m, e, rfl⟩
  simp only [List.cons.injEq, D.str.injEq, D.int.injEq, and_true] at e
  obtain ⟨rfl, rfl, e⟩ := e
  obtain rfl : n = m := by omega
  exact k

def pre_is_content (n : Nat) : List D → Prop := fun ds => ∃ d m, ds = [d] ∧ n = m + 1 ∧ n ≤ 60 ∧ Ok m d
def post_is_content (n : Nat) : List D → D → Prop := fun ds r => ∃ d, ds = [d] ∧ r = .bl (contD n d)

def pre__law_is_content (n : Nat) : List D → Prop := fun ds => ∃ d m, ds = [d] ∧ n = m + 1 ∧ n ≤ 60 ∧ Ok m d
def post__law_is_content (n : Nat) : List D → D → Prop := fun ds r => ∃ d, ds = [d] ∧ r = .bl (contD n d)
theorem len3 {ds : List D} (h : ds.length = 3) : ∃ a b c, ds = [a, b, c] := by
  match ds, h with
  | [a, b, c], _ => exact ⟨a, b, c, rfl⟩
theorem len2 {ds : List D} (h : ds.length = 2) : ∃ a b, ds = [a, b] := by
  match ds, h with
  | [a, b], _ => exact ⟨a, b, rfl⟩
theorem cmp2 {a b : D} (ha : Fit 0 100 a) (hb : Fit 0 100 b) : Cmp (.tup [a, b]) := (Fit.tup (fun d hd => by
  simp only [List.mem_cons, List.not_mem_nil, or_false] at hd
  rcases hd with rfl | rfl
  · exact ha
  · exact hb) : Fit 1 _ _).cmp (by decide)
theorem fitS {t : Str} (h : t.cps.all (· < 0x110000) = true) (hl : t.cps.size ≤ 100) : Fit 0 100 (.str t) := Fit.str h hl
def IsNode (d : D) : Prop := ∃ s r, d = .tup (.str s :: r) ∧ Fit 5 6000 d
def txts : List D := [.str "", .str "a", .str "b", .str "one", .str "a b", .str "say \"x\"", .str "back\\slash", .str "two\nlines", .str "$arg", .str "-", .str "a,b", .str (repS "x" 20)]
theorem txt_fit : ∀ d ∈ txts, (∃ x, d = .str x) ∧ Fit 0 20 d := by
  intro d hd
  simp only [txts, List.mem_cons, List.not_mem_nil, or_false] at hd
  rcases hd with rfl | rfl | rfl | rfl | rfl | rfl | rfl | rfl | rfl | rfl | rfl | rfl <;> exact ⟨⟨_, rfl⟩, Fit.str (by decide +kernel) (by decide +kernel)⟩
def deeds : List D := [.str "zip", .str "cc", .str "a"]
/-- a content, at most n made ones deep -/
def isC : Nat → D → Prop
  | 0, d => d ∈ txts
  | n + 1, d => d ∈ txts ∨ ∃ a parts, d = .tup [.str "made", a, .tup parts] ∧ a ∈ deeds ∧ parts.length ≤ 3 ∧ ∀ p ∈ parts, p = .non ∨ isC n p
def cB : Nat → Nat
  | 0 => 20
  | n + 1 => 9 * cB n + 24
theorem cB_20 : ∀ n, 20 ≤ cB n
  | 0 => Nat.le_refl _
  | n + 1 => by
    have := cB_20 n
    show 20 ≤ 9 * cB n + 24
    omega
theorem isC_fit : ∀ {n : Nat} {d : D}, isC n d → Fit (2 * n) (cB n) d
  | 0, d, h => (txt_fit d h).2
  | n + 1, d, h => by
    have eB : cB (n + 1) = 9 * cB n + 24 := rfl
    rcases h with h | ⟨a, parts, rfl, ha, hl, hp⟩
    · exact (txt_fit d h).2.mono (Nat.zero_le _) (cB_20 _)
    · have f1 : Fit (2 * n + 1) (3 * (cB n + 1)) (.tup parts) := (Fit.tup (a := 2 * n) (b := cB n) fun p h => by
        rcases hp p h with rfl | h2
        · exact .non
        · exact isC_fit h2).mono (Nat.le_refl _) (Nat.mul_le_mul_right _ hl)
      have fa : Fit 0 4 a := by
        simp only [deeds, List.mem_cons, List.not_mem_nil, or_false] at ha
        rcases ha with rfl | rfl | rfl <;> exact Fit.str (by decide +kernel) (by decide +kernel)
      refine (Fit.tup (a := 2 * n + 1) (b := 3 * (cB n + 1) + 4) fun p h => ?_).mono (by omega) ?_
      · simp only [List.mem_cons, List.not_mem_nil, or_false] at h
        rcases h with rfl | rfl | rfl
        · exact (Fit.str (a := 0) (b := 4) (by decide +kernel) (by decide +kernel)).mono (by omega) (by omega)
        · exact fa.mono (by omega) (by omega)
        · exact f1.mono (Nat.le_refl _) (by omega)
      · rw [eB]
        simp only [List.length_cons, List.length_nil]
        omega
theorem node_fit {s : Str} {L : List D} (h1 : s.cps.all (· < 0x110000) = true) (h2 : s.cps.size ≤ 1900) (h3 : L.length ≤ 2) (h : ∀ d ∈ L, Fit 4 1900 d) : Fit 5 6000 (.tup (.str s :: L)) := by
  refine (Fit.tup (a := 4) (b := 1900) fun x hx => ?_).mono (Nat.le_refl _) (by rw [List.length_cons]; omega)
  rcases List.mem_cons.mp hx with rfl | hx
  · exact (Fit.str (a := 0) h1 h2).mono (by decide) (Nat.le_refl _)
  · exact h x hx

def IsNm (d : D) : Prop := ∃ s, d = .str s ∧ TxB 16 s
/-- what a change makes of a thing -/
def Sp (d r : D) : Prop := ∀ a b, SFit a b d → SFit (a + 10) (2 * b + 18200) r

structure Tx (K : PySem.W.Frag) (mg : Str → Option Value) where
  f_is_integer : Addr
  d_is_integer : FuncData
  F_is_integer : Fun K "is_integer" "is_integer" s_is_integer f_is_integer d_is_integer
  b_is_integer : Binds K d_is_integer ["thing"] []
  m_is_integer : mg "is_integer" = some (.ref f_is_integer)
  f_is_name : Addr
  d_is_name : FuncData
  F_is_name : Fun K "is_name" "is_name" s_is_name f_is_name d_is_name
  b_is_name : Binds K d_is_name ["thing"] []
  m_is_name : mg "is_name" = some (.ref f_is_name)
  f_is_path : Addr
  d_is_path : FuncData
  F_is_path : Fun K "is_path" "is_path" s_is_path f_is_path d_is_path
  b_is_path : Binds K d_is_path ["thing"] []
  m_is_path : mg "is_path" = some (.ref f_is_path)
  f_is_text : Addr
  d_is_text : FuncData
  F_is_text : Fun K "is_text" "is_text" s_is_text f_is_text d_is_text
  b_is_text : Binds K d_is_text ["thing"] []
  m_is_text : mg "is_text" = some (.ref f_is_text)
  f_is_content : Addr
  d_is_content : FuncData
  F_is_content : Fun K "is_content" "is_content" s_is_content f_is_content d_is_content
  b_is_content : Binds K d_is_content ["thing"] []
  m_is_content : mg "is_content" = some (.ref f_is_content)
  f_are_parts : Addr
  d_are_parts : FuncData
  F_are_parts : Fun K "are_parts" "are_parts" s_are_parts f_are_parts d_are_parts
  b_are_parts : Binds K d_are_parts ["thing"] []
  m_are_parts : mg "are_parts" = some (.ref f_are_parts)
  f_is_rights : Addr
  d_is_rights : FuncData
  F_is_rights : Fun K "is_rights" "is_rights" s_is_rights f_is_rights d_is_rights
  b_is_rights : Binds K d_is_rights ["thing"] []
  m_is_rights : mg "is_rights" = some (.ref f_is_rights)
  f_is_node : Addr
  d_is_node : FuncData
  F_is_node : Fun K "is_node" "is_node" s_is_node f_is_node d_is_node
  b_is_node : Binds K d_is_node ["thing"] []
  m_is_node : mg "is_node" = some (.ref f_is_node)
  f_is_entry : Addr
  d_is_entry : FuncData
  F_is_entry : Fun K "is_entry" "is_entry" s_is_entry f_is_entry d_is_entry
  b_is_entry : Binds K d_is_entry ["thing"] []
  m_is_entry : mg "is_entry" = some (.ref f_is_entry)
  f_is_tagged : Addr
  d_is_tagged : FuncData
  F_is_tagged : Fun K "is_tagged" "is_tagged" s_is_tagged f_is_tagged d_is_tagged
  b_is_tagged : Binds K d_is_tagged ["thing", "tag", "many"] []
  m_is_tagged : mg "is_tagged" = some (.ref f_is_tagged)
  f__law_bag : Addr
  d__law_bag : FuncData
  F__law_bag : Fun K "_law_bag" "_law_bag" s__law_bag f__law_bag d__law_bag
  b__law_bag : Binds K d__law_bag ["_law_script"] []
  m__law_bag : mg "_law_bag" = some (.ref f__law_bag)
  f__law_take : Addr
  d__law_take : FuncData
  F__law_take : Fun K "_law_take" "_law_take" s__law_take f__law_take d__law_take
  b__law_take : Binds K d__law_take ["_law_bag_here", "_law_many"] []
  m__law_take : mg "_law_take" = some (.ref f__law_take)
  f__law_alike : Addr
  d__law_alike : FuncData
  F__law_alike : Fun K "_law_alike" "_law_alike" s__law_alike f__law_alike d__law_alike
  b__law_alike : Binds K d__law_alike ["_law_found", "_law_due"] []
  m__law_alike : mg "_law_alike" = some (.ref f__law_alike)
  f__law_names : Addr
  d__law_names : FuncData
  F__law_names : Fun K "_law_names" "_law_names" s__law_names f__law_names d__law_names
  b__law_names : Binds K d__law_names ["_law_bag_here", "_law_many"] []
  m__law_names : mg "_law_names" = some (.ref f__law_names)
  f__law_text : Addr
  d__law_text : FuncData
  F__law_text : Fun K "_law_text" "_law_text" s__law_text f__law_text d__law_text
  b__law_text : Binds K d__law_text ["_law_bag_here"] []
  m__law_text : mg "_law_text" = some (.ref f__law_text)
  f__law_content : Addr
  d__law_content : FuncData
  F__law_content : Fun K "_law_content" "_law_content" s__law_content f__law_content d__law_content
  b__law_content : Binds K d__law_content ["_law_bag_here", "_law_deep"] []
  m__law_content : mg "_law_content" = some (.ref f__law_content)
  f__law_node : Addr
  d__law_node : FuncData
  F__law_node : Fun K "_law_node" "_law_node" s__law_node f__law_node d__law_node
  b__law_node : Binds K d__law_node ["_law_bag_here", "_law_deep"] []
  m__law_node : mg "_law_node" = some (.ref f__law_node)
  f__law_odd : Addr
  d__law_odd : FuncData
  F__law_odd : Fun K "_law_odd" "_law_odd" s__law_odd f__law_odd d__law_odd
  b__law_odd : Binds K d__law_odd ["_law_bag_here"] []
  m__law_odd : mg "_law_odd" = some (.ref f__law_odd)
  f__law_spoiled : Addr
  d__law_spoiled : FuncData
  F__law_spoiled : Fun K "_law_spoiled" "_law_spoiled" s__law_spoiled f__law_spoiled d__law_spoiled
  b__law_spoiled : Binds K d__law_spoiled ["_law_bag_here", "_law_thing_here"] []
  m__law_spoiled : mg "_law_spoiled" = some (.ref f__law_spoiled)
  f__law_whole : Addr
  d__law_whole : FuncData
  F__law_whole : Fun K "_law_whole" "_law_whole" s__law_whole f__law_whole d__law_whole
  b__law_whole : Binds K d__law_whole ["_law_thing_here"] []
  m__law_whole : mg "_law_whole" = some (.ref f__law_whole)
  f__law_is_name : Addr
  d__law_is_name : FuncData
  F__law_is_name : Fun K "_law_is_name" "_law_is_name" s__law_is_name f__law_is_name d__law_is_name
  b__law_is_name : Binds K d__law_is_name ["_law_thing_here"] []
  m__law_is_name : mg "_law_is_name" = some (.ref f__law_is_name)
  f__law_is_path : Addr
  d__law_is_path : FuncData
  F__law_is_path : Fun K "_law_is_path" "_law_is_path" s__law_is_path f__law_is_path d__law_is_path
  b__law_is_path : Binds K d__law_is_path ["_law_thing_here"] []
  m__law_is_path : mg "_law_is_path" = some (.ref f__law_is_path)
  f__law_is_text : Addr
  d__law_is_text : FuncData
  F__law_is_text : Fun K "_law_is_text" "_law_is_text" s__law_is_text f__law_is_text d__law_is_text
  b__law_is_text : Binds K d__law_is_text ["_law_thing_here"] []
  m__law_is_text : mg "_law_is_text" = some (.ref f__law_is_text)
  f__law_is_rights : Addr
  d__law_is_rights : FuncData
  F__law_is_rights : Fun K "_law_is_rights" "_law_is_rights" s__law_is_rights f__law_is_rights d__law_is_rights
  b__law_is_rights : Binds K d__law_is_rights ["_law_thing_here"] []
  m__law_is_rights : mg "_law_is_rights" = some (.ref f__law_is_rights)
  f__law_is_content : Addr
  d__law_is_content : FuncData
  F__law_is_content : Fun K "_law_is_content" "_law_is_content" s__law_is_content f__law_is_content d__law_is_content
  b__law_is_content : Binds K d__law_is_content ["_law_thing_here"] []
  m__law_is_content : mg "_law_is_content" = some (.ref f__law_is_content)
  f__law_is_node : Addr
  d__law_is_node : FuncData
  F__law_is_node : Fun K "_law_is_node" "_law_is_node" s__law_is_node f__law_is_node d__law_is_node
  b__law_is_node : Binds K d__law_is_node ["_law_thing_here"] []
  m__law_is_node : mg "_law_is_node" = some (.ref f__law_is_node)
  f__law_is_entry : Addr
  d__law_is_entry : FuncData
  F__law_is_entry : Fun K "_law_is_entry" "_law_is_entry" s__law_is_entry f__law_is_entry d__law_is_entry
  b__law_is_entry : Binds K d__law_is_entry ["_law_thing_here"] []
  m__law_is_entry : mg "_law_is_entry" = some (.ref f__law_is_entry)
  f__law_entry : Addr
  d__law_entry : FuncData
  F__law_entry : Fun K "_law_entry" "_law_entry" s__law_entry f__law_entry d__law_entry
  b__law_entry : Binds K d__law_entry ["_law_bag_here"] []
  m__law_entry : mg "_law_entry" = some (.ref f__law_entry)
  f__law_nested : Addr
  d__law_nested : FuncData
  F__law_nested : Fun K "_law_nested" "_law_nested" s__law_nested f__law_nested d__law_nested
  b__law_nested : Binds K d__law_nested ["_law_bag_here"] []
  m__law_nested : mg "_law_nested" = some (.ref f__law_nested)
  f__law_thing : Addr
  d__law_thing : FuncData
  F__law_thing : Fun K "_law_thing" "_law_thing" s__law_thing f__law_thing d__law_thing
  b__law_thing : Binds K d__law_thing ["_law_bag_here", "_law_names_here"] []
  m__law_thing : mg "_law_thing" = some (.ref f__law_thing)
  f_law : Addr
  d_law : FuncData
  F_law : Fun K "law" "law" s_law f_law d_law
  b_law : Binds K d_law ["_law_script"] []
  m_law : mg "law" = some (.ref f_law)
  c_LETTERS : ∃ u, mg "LETTERS" = some u ∧ RelV (.str "abcdefghijklmnopqrstuvwxyz") u
  c_MOST_CHARACTERS : ∃ u, mg "MOST_CHARACTERS" = some u ∧ RelV (.int 20) u
  c_MOST_LETTERS : ∃ u, mg "MOST_LETTERS" = some u ∧ RelV (.int 8) u
  c_MOST_PARTS : ∃ u, mg "MOST_PARTS" = some u ∧ RelV (.int 3) u
  c_MOST_RIGHTS : ∃ u, mg "MOST_RIGHTS" = some u ∧ RelV (.int 7) u
  z_abs : mg "abs" = none
  z_all : mg "all" = none
  z_bool : mg "bool" = none
  z_int : mg "int" = none
  z_isinstance : mg "isinstance" = none
  z_len : mg "len" = none
  z_list : mg "list" = none
  z_range : mg "range" = none
  z_repr : mg "repr" = none
  z_str : mg "str" = none
  z_tuple : mg "tuple" = none
section
variable {P : Program} {w : World} {K : PySem.W.Frag} {mg : Str → Option Value} {base : Heap}

/-! the bag and its draws, by the hand layer itself -/
theorem bag_set {H : Hp} {b l : Addr} {j0 j1 j2 : Int} {ns : List Int} (n : l ≠ b) (e2 : H l = some (.lst (ns.map V.int))) (h0 : 0 ≤ j0) (h1 : 0 ≤ j1) (h1' : j1 < 2147483647) (h2 : 0 ≤ j2) (hn : ∀ n ∈ ns, 0 ≤ n) : Bag (upd H b (.lst [.int j0, .int j1, .int j2, .ref l])) b l :=
  ⟨j0, j1, j2, ns, upd_same, n, by rw [upd_ne n]; exact e2, h0, h1, h1', h2, hn⟩
theorem ok__law_take (T : Tx K mg) : FnG P w K mg base CX0 1 T.f__law_take T.d__law_take ["_law_bag_here", "_law_many"] (spB K preT postT) := by
  have sc := sc__law_take
  refine fnG_of T.F__law_take sc (fun vs H Q E ⟨b, l, ws, S, ds, e, _, _, _, _, r, ⟨n, hd, _⟩, _⟩ => by rw [e, List.length_cons, r.length, hd]; rfl) fun cdv A fr s H vs Q E hs hr ⟨b, l, ws, S, ds, e, hb, hl, ⟨i0, i1, i2, ns, e1, nlb, e2, p0, p1, p1', p2, pn⟩, hd, r, ⟨n, hn, n0, n1⟩, κ⟩ => ?_
  subst e hn
  cases r with
  | cons r1 r2 =>
  cases r1
  cases r2
  have hu := hu_of hr
  -- the answer, once r and the bag are known
  have fin : ∀ (H' : Hp) (z : Int), (∀ a o, a ≠ b → H a = some o → H' a = some o) → Bag H' b l → 0 ≤ z → z < n → Q (.int z) H' := fun H' z h1 h2 h3 h4 => κ (.int z) H' (.int z) ⟨h1, h2⟩ ⟨n, z, rfl, rfl, h3, h4⟩ (.int z)
  refine ⟨_, C8.pss_cut (ps_if (pt_cmpR op_eq (pe_ix ix_list (pv 0) pe_int (fun _ _ => rfl)) pe_int (nomark _))
      (pss_cons (ps_set (i := 2) sc.nd rfl (.inl rfl) pe_int)
      (C8.pss_cut (ps_if (pt_cmpR op_lt (pe_ix ix_list (pv 0) pe_int (fun _ _ => rfl)) (pe_callB call_len_seq (by rfl) T.z_len PySem.boot_len (pa_cons (pe_ix ix_list (pv 0) pe_int (fun _ _ => rfl)) pa_nil)) (nomark _))
          (pss_one (ps_set (i := 2) sc.nd rfl (.inl rfl) (pe_ix ix_list (pe_ix ix_list (pv 0) pe_int (fun _ _ => rfl)) (pe_ix ix_list (pv 0) pe_int (fun _ _ => rfl)) (fun _ _ => rfl)))) pss_nil)
      (pss_cons (ps_augS (pv 0) pe_int get_list pe_int ip_add set_list)
      (C8.pss_cut (ps_if (pt_cmpR op_ge (pv 2) pe_int (nomark _)) (pss_one (ps_asg (pv 2) (pg_sub (pv 0) pe_int set_list))) pss_nil)
      (pss_one (ps_asg (pe_op op_mod (pe_op op_add (pe_op op_add (pe_op op_mul (pe_ix ix_list (pv 0) pe_int (fun _ _ => rfl)) pe_int) (pe_op op_mod (pv 2) pe_int)) (pe_op op_mul pe_int (pe_ix ix_list (pv 0) pe_int (fun _ _ => rfl)))) pe_int) (pg_sub (pv 0) pe_int set_list))))))) pss_nil)
    (pss_cons (ps_if (pt_cmpR op_gt (pe_ix ix_list (pv 0) pe_int (fun _ _ => rfl)) pe_int (nomark _))
      (pss_cons (ps_set (i := 3) sc.nd rfl (.inl rfl) (pe_op op_mod (pe_ix ix_list (pv 0) pe_int (fun _ _ => rfl)) (pv 1)))
      (pss_cons (ps_asg (pe_op op_fdivW (pe_ix ix_list (pv 0) pe_int (fun _ _ => rfl)) (pv 1)) (pg_sub (pv 0) pe_int set_list))
      (pss_one (ps_ret (pv 3))))) pss_nil)
    (pss_cons (ps_set (i := 4) sc.nd rfl (.inl rfl) (pe_op op_mod (pe_op op_mul (pe_op op_add (pe_ix ix_list (pv 0) pe_int (fun _ _ => rfl)) pe_int) pe_int) pe_int))
    (pss_cons (ps_set (i := 5) sc.nd rfl (.inl rfl) (pe_op op_mod (pe_op op_mul (pe_op op_mod (pe_op op_mul (pv 4) (pv 4)) pe_int) pe_int) pe_int))
    (pss_cons (ps_if (pt_cmpR op_gt (pv 1) pe_int (nomark _)) (pss_one (ps_ret (pe_op op_mod (pe_op op_add (pe_op op_mul (pv 5) pe_int) (pv 4)) (pv 1)))) pss_nil)
    (pss_one (ps_ret (pe_op op_mod (pe_op op_fdiv (pv 5) pe_int) (pv 1)))))))), ?_⟩
  have big : n.natAbs < 2 ^ 40 := by
    have : (2 : Nat) ^ 40 = 1099511627776 := by decide
    omega
  -- behind the first if
  refine ⟨fun σ H' => ∃ (c d : Option V) (j0 j1 j2 : Int), σ = [some (.ref b), some (.int n), c, d, none, none] ∧ (∀ a o, a ≠ b → H a = some o → H' a = some o) ∧ H' b = some (.lst [.int j0, .int j1, .int j2, .ref l]) ∧ H' l = some (.lst (ns.map V.int)) ∧ 0 ≤ j0 ∧ 0 ≤ j1 ∧ j1 < 2147483647 ∧ 0 ≤ j2, ?_, ?_⟩
  · refine ⟨_, rfl, b, _, 0, .int i0, rfl, rfl, SqL.of e1, atI_nat (j := 0) rfl, rfl, _, rfl, ite2 (fun z => ?_) (fun _ => ⟨none, none, i0, i1, i2, rfl, fun a o _ e => e, e1, e2, p0, p1, p1', p2⟩)⟩
    -- cell
    refine ⟨fun σ H' => ∃ c : Int, σ = [some (.ref b), some (.int n), some (.int c), none, none, none] ∧ H' = H ∧ 0 ≤ c, ?_, ?_⟩
    · refine ⟨_, rfl, b, _, 2, .int i2, rfl, rfl, SqL.of e1, atI_nat (j := 2) rfl, _, rfl, b, _, 3, .ref l, rfl, rfl, SqL.of e1, atI_nat (j := 3) rfl, l, _, rfl, .inl (SqL.of e2), _, _, rfl, rfl, _, rfl, ite2 (fun z2 => ?_) (fun _ => ⟨0, rfl, rfl, Int.le_refl 0⟩)⟩
      have z3 : i2 < ((ns.map V.int).length : Int) := of_decide_eq_true z2
      rw [List.length_map] at z3
      have z4 : i2.toNat < ns.length := by omega
      have z5 : atI (ns.map V.int) i2 = some (.int ns[i2.toNat]) := by
        have := atI_nat (xs := ns.map V.int) (j := i2.toNat) (v := .int ns[i2.toNat]) (by rw [List.getElem?_map, List.getElem?_eq_getElem z4]; rfl)
        rwa [Int.toNat_of_nonneg p2] at this
      exact ⟨_, rfl, b, _, 3, .ref l, rfl, rfl, SqL.of e1, atI_nat (j := 3) rfl, _, rfl, b, _, 2, .int i2, rfl, rfl, SqL.of e1, atI_nat (j := 2) rfl, l, _, i2, _, rfl, rfl, SqL.of e2, z5, ns[i2.toNat], rfl, rfl, pn _ (List.getElem_mem z4)⟩
    · rintro σ H' ⟨c, rfl, rfl, hc⟩
      refine ⟨_, rfl, b, _, 2, .int i2, rfl, rfl, e1, by decide, rfl, i2, 1, rfl, rfl, b, _, 2, 2, rfl, rfl, e1, rfl, ?_⟩
      have e3 : upd H' b (.lst [.int i0, .int i1, .int (i2 + 1), .ref l]) b = some (.lst [.int i0, .int i1, .int (i2 + 1), .ref l]) := upd_same
      have e4 : upd H' b (.lst [.int i0, .int i1, .int (i2 + 1), .ref l]) l = some (.lst (ns.map V.int)) := by rw [upd_ne nlb]; exact e2
      refine ⟨fun σ H2 => ∃ j0 : Int, σ = [some (.ref b), some (.int n), some (.int c), none, none, none] ∧ (∀ a o, a ≠ b → H' a = some o → H2 a = some o) ∧ H2 b = some (.lst [.int j0, .int i1, .int (i2 + 1), .ref l]) ∧ H2 l = some (.lst (ns.map V.int)) ∧ 0 ≤ j0, ?_, ?_⟩
      · refine ⟨_, rfl, _, _, rfl, rfl, _, rfl, ite2 (fun _ => ?_) (fun _ => ⟨i0, rfl, fun a o na e => by rw [upd_ne na]; exact e, e3, e4, p0⟩)⟩
        refine ⟨_, rfl, _, rfl, b, _, 0, 0, rfl, rfl, e3, rfl, c, rfl, fun a o na e => by rw [upd_ne na, upd_ne na]; exact e, upd_same, by rw [upd_ne nlb]; exact e4, hc⟩
      · rintro σ H2 ⟨j0, rfl, k1, k2, k3, k4⟩
        refine ⟨_, rfl, b, _, 1, .int i1, rfl, rfl, SqL.of k2, atI_nat (j := 1) rfl, _, _, rfl, rfl, .inr ⟨by decide, by decide⟩, _, rfl, _, _, rfl, rfl, (by show (0 : Int) < 2147483647; decide), _, _, rfl, rfl, _, rfl, b, _, 2, .int (i2 + 1), rfl, rfl, SqL.of k2, atI_nat (j := 2) rfl, _, _, rfl, rfl, .inl ⟨by decide, by decide⟩, _, _, rfl, rfl, _, _, rfl, rfl, (by show (0 : Int) < 2147483647; decide), ?_⟩
        have m0 : 0 ≤ (i1 * 48271 + c % 2147483647 + 7919 * (i2 + 1)) % 2147483647 := Int.emod_nonneg _ (by decide)
        have m1 : (i1 * 48271 + c % 2147483647 + 7919 * (i2 + 1)) % 2147483647 < 2147483647 := Int.emod_lt_of_pos _ (by decide)
        exact ⟨_, rfl, b, _, 1, 1, rfl, rfl, k2, rfl, some (.int c), none, j0, _, i2 + 1, rfl, fun a o na e => by rw [upd_ne na]; exact k1 a o na e, upd_same, by rw [upd_ne nlb]; exact k3, k4, m0, m1, by omega⟩
  · rintro σ H' ⟨c, d, j0, j1, j2, rfl, k1, k2, k3, q0, q1, q1', q2⟩
    have hB : Bag H' b l := ⟨j0, j1, j2, ns, k2, nlb, k3, q0, q1, q1', q2, pn⟩
    refine ⟨_, rfl, b, _, 0, .int j0, rfl, rfl, SqL.of k2, atI_nat (j := 0) rfl, _, _, rfl, rfl, _, rfl, ite2 (fun _ => ?_) (fun _ => ?_)⟩
    · refine ⟨_, rfl, b, _, 0, .int j0, rfl, rfl, SqL.of k2, atI_nat (j := 0) rfl, _, rfl, _, _, rfl, rfl, n0, ?_⟩
      refine ⟨_, rfl, b, _, 0, .int j0, rfl, rfl, SqL.of k2, atI_nat (j := 0) rfl, _, rfl, _, _, rfl, rfl, wide_div n0 big (by decide) (by decide), _, rfl, b, _, 0, 0, rfl, rfl, k2, rfl, _, rfl, ?_⟩
      exact fin _ _ (fun a o na e => by rw [upd_ne na]; exact k1 a o na e) (bag_set nlb k3 (Int.ediv_nonneg q0 (Int.le_of_lt n0)) q1 q1' q2 pn) (Int.emod_nonneg _ (by omega)) (Int.emod_lt_of_pos _ n0)
    · have g0 : 0 ≤ (j1 + 1) * 39373 % 1000000007 := Int.emod_nonneg _ (by decide)
      have g1 : (j1 + 1) * 39373 % 1000000007 < 1000000007 := Int.emod_lt_of_pos _ (by decide)
      refine ⟨_, rfl, b, _, 1, .int j1, rfl, rfl, SqL.of k2, atI_nat (j := 1) rfl, _, _, rfl, rfl, _, _, rfl, rfl, .inr ⟨by decide, by decide⟩, _, _, rfl, rfl, (by show (0 : Int) < 1000000007; decide), ?_⟩
      generalize (j1 + 1) * 39373 % 1000000007 = y at g0 g1 ⊢
      refine ⟨_, rfl, _, rfl, _, _, rfl, rfl, .inr ⟨by omega, by omega⟩, _, _, rfl, rfl, (by show (0 : Int) < 998244353; decide), _, _, rfl, rfl, .inr ⟨by decide, by decide⟩, _, _, rfl, rfl, (by show (0 : Int) < 998244353; decide), ?_⟩
      refine ⟨_, rfl, _, _, rfl, rfl, _, rfl, ite2 (fun _ => ?_) (fun _ => ?_)⟩
      · refine ⟨_, rfl, _, _, rfl, rfl, .inr ⟨by decide, by decide⟩, _, rfl, _, _, rfl, rfl, _, rfl, _, _, rfl, rfl, n0, ?_⟩
        exact fin _ _ k1 hB (Int.emod_nonneg _ (by omega)) (Int.emod_lt_of_pos _ n0)
      · refine ⟨_, rfl, _, _, rfl, rfl, ⟨by decide, by decide⟩, _, rfl, _, _, rfl, rfl, n0, ?_⟩
        exact fin _ _ k1 hB (Int.emod_nonneg _ (by omega)) (Int.emod_lt_of_pos _ n0)


def iabs (i : Int) : Int := if i < 0 then -i else i
theorem ok__law_bag (T : Tx K mg) : FnG P w K mg base CX0 1 T.f__law_bag T.d__law_bag ["_law_script"] (spBag K) := by
  have sc := sc__law_bag
  refine fnG_of T.F__law_bag sc (fun vs H Q E ⟨a, ns, e, _⟩ => by rw [e]; rfl) fun cdv A fr s H vs Q E hs hr ⟨a, ns, e, hS, hl, κ⟩ => ?_
  subst e
  refine ⟨_, pss_one (ps_ret (pe_lst (pa_cons pe_int (pa_cons pe_int (pa_cons pe_int (pa_cons (pe_lc (own := [("_law_cell", 1)]) (g := gName 1) (tt := tYes) rfl sc.nd (pi_list (pe_slice sl_list (pv 0) po_none (po_some pe_int)))
    (blkOk_by (N := N__law_bag) (sc := defScope s__law_bag) (by decide +kernel)) (fun _ _ _ _ _ => pg_name (i := 1) sc.nd rfl (Or.inl rfl)) (fun _ _ _ _ _ => pts_nil) (fun _ _ _ _ _ => pe_callB call_abs (by rfl) T.z_abs (by decide +kernel) (pa_cons (pv 1) pa_nil))) pa_nil)))))), ?_⟩
  have ec : cutV (ns.map V.int) none (some 63) = ns.map V.int := by
    unfold cutV
    have e63 : HT.sIx (ns.map V.int).length (ns.map V.int).length (some 63) = (ns.map V.int).length := by
      rw [show (some 63 : Option Int) = some ((63 : Nat) : Int) from rfl, HT.sIx_nat, List.length_map]
      omega
    rw [e63, HT.sIx_none, List.drop_zero, Nat.sub_zero, List.take_length]
  refine ⟨_, rfl, 63, rfl, a, _, rfl, hS, fun c nc => ?_⟩
  rw [ec]
  have s1 : ∀ x o, H x = some o → upd H c (.lst (ns.map V.int)) x = some o := upd_keep nc
  refine ⟨c, rfl, ⟨_, SqL.of upd_same⟩, fun D nD => ?_⟩
  have ncD : c ≠ D := fun z => by
    rw [← z, upd_same] at nD
    cases nD
  have hD : H D = none := by rw [upd_ne ncD.symm] at nD; exact nD
  refine lc_list (K := K) (a := c) (xs := ns.map V.int) (fun i H' => (∀ x o, H x = some o → H' x = some o) ∧ H' c = some (.lst (ns.map V.int)) ∧ H' D = some (.lst (((ns.map iabs).take i).map V.int))) ⟨fun x o e => ?_, ?_, upd_same⟩ (fun i H' _ z => SqL.of z.2.1) (fun i x H' hx z => ?_) (fun H' z => ?_)
  · rw [upd_ne (ne_of_none (s1 x o e) nD)]
    exact s1 x o e
  · rw [upd_ne ncD]
    exact upd_same
  · obtain ⟨z1, z2, z3⟩ := z
    rw [List.getElem?_map] at hx
    cases q : ns[i]? with
    | none =>
      rw [q] at hx
      cases hx
    | some n =>
      rw [q] at hx
      obtain rfl := Option.some.inj hx
      refine ⟨rfl, .int n, rfl, n, rfl, _, z3, ?_, fun x o e => ?_, ?_, ?_⟩
      · rw [List.length_map, List.length_take, List.length_map]
        exact Nat.lt_of_le_of_lt (Nat.min_le_right _ _) (small1000 (by omega))
      · rw [upd_ne (ne_of_none e hD)]
        exact z1 x o e
      · rw [upd_ne ncD]
        exact z2
      · rw [upd_same, List.take_add_one, List.getElem?_map, q, List.map_append]
        rfl
  · obtain ⟨z1, z2, z3⟩ := z
    refine ⟨(by show 4 ≤ sizeLine; decide), fun p np => ?_⟩
    rw [List.length_map, show ns.length = (ns.map iabs).length from (List.length_map _).symm, List.take_length] at z3
    have nDp : D ≠ p := ne_of_none z3 np
    have hp : H p = none := by
      cases q : H p with
      | none => rfl
      | some o =>
        rw [z1 p o q] at np
        cases np
    refine κ p D _ (fun x o e => upd_keep np x o (z1 x o e)) hp hD ⟨0, 1234567891, 0, ns.map iabs, upd_same, nDp, by rw [upd_ne nDp]; exact z3, Int.le_refl _, by decide, by decide, Int.le_refl _, fun n hn => ?_⟩
    obtain ⟨m, _, rfl⟩ := List.mem_map.mp hn
    unfold iabs
    split <;> omega

def pre_is_integer : List D → Prop := fun ds => ∃ d, ds = [d] ∧ Ok 60 d
def post_is_integer : List D → D → Prop := fun ds r => ∃ d, ds = [d] ∧ r = .bl (wholeD d)
theorem ok_is_integer (T : Tx K mg)  : FnG P w K mg base CX0 (0 + 1) T.f_is_integer T.d_is_integer ["thing"] (spD K (pre_is_integer) (post_is_integer)) := by
  have sc := sc_is_integer
  refine fnD T.F_is_integer sc (fun ds ⟨d, e, _⟩ => by rw [e]; rfl) ?_
  intro cdv A fr s H E S0 hst hr
  refine ⟨_, (ss_one (sd_ret (ed_and (ed_isi (T := "int") rfl (ed_v 0) rfl T.z_isinstance rfl T.z_int (by decide +kernel) (by decide)) (ed_one (ed_not (ed_isi (T := "bool") rfl (ed_v 0) rfl T.z_isinstance rfl T.z_bool (by decide +kernel) (by decide))))))), ?_⟩

  rintro ds ⟨d, rfl, hd⟩
  have fin : ∀ b : Bool, b = wholeD d → post_is_integer [d] (.bl b) := fun b h => ⟨d, rfl, by rw [h]⟩
  simp only [sSeq, sIf, sRet, sSet, sPar, sNext, sExpr, sFor, dV, dC, dNil, dCons, dTup, dLst, d2, dTest, fI, fIc, fEq, fNe, fIn, fIs, fIsNot, dAnd, dOr, dNot, dIf, dCall, dCallB, dLc, iL, iT, iR, iR2, dYes, fIx, dB, fLen, fSum, fAll, fAny, fInt, fTuple, fList, dIsi, fInT, fNinT, fRepr, tA, tO, tN, dU, fAbs, fAdd, oN, oS, dSl, fInS, fNinS, fMulS, fEqS, fNeS, gD, gB, sSetO, sParO, sFrz, sApp, sIns, sPut, dIxO, dSlO, dView, tView, viewB, D.plain, fNin, dChain, fRep, fOneT, fIsBl, dJoin, dSplit, dDict1, iS, fCat, fEqE, sAsg, setP, setAll, sCut, fAddS, fAddL, fAddT, fEqT0, dStep, dIndex, sPar3, dGet2, dInK, dGetK, fNeDA, fDictD, fDictP, dStar, fIsNotBl, dDc]
  simp
  cases d <;> exact fin _ rfl
def pre_is_name : List D → Prop := fun ds => ∃ d, ds = [d] ∧ Ok 60 d
def post_is_name : List D → D → Prop := fun ds r => ∃ d, ds = [d] ∧ r = .bl (nameD d)
theorem ok_is_name (T : Tx K mg)  : FnG P w K mg base CX0 (0 + 1) T.f_is_name T.d_is_name ["thing"] (spD K (pre_is_name) (post_is_name)) := by
  have sc := sc_is_name
  refine fnD T.F_is_name sc (fun ds ⟨d, e, _⟩ => by rw [e]; rfl) ?_
  intro cdv A fr s H E S0 hst hr
  refine ⟨_, (ss_cons (sd_if (td_w (tw_or (td_not (td_bl (ed_isi (T := "str") rfl (ed_v 0) rfl T.z_isinstance rfl T.z_str (by decide +kernel) (by decide)) (fun _ => rfl))) (tw_or1 (td_not (td_chain op_le o2_blI op_le o2_blI ed_int (ed_blt call_len cc_len (by rfl) T.z_len (by decide +kernel) (ad_cons (ed_v 0) ad_nil)) (ed_glob rfl T.c_MOST_LETTERS (.int _))))))) (ss_one (sd_ret ed_bl)) ss_nil)
      (ss_one (sd_ret (ed_blt (cr_all rfl) cc_all (by rfl) T.z_all (by decide +kernel) (ad_cons (ed_lc (p := (.nm 1)) (own := [("letter", 1)]) rfl sc.nd (id_str (ed_v 0)) (blkOk_by (N := N_is_name) (sc := defScope s_is_name) (by decide +kernel)) (fun _ _ _ _ _ => (pg_name (i := 1) sc.nd rfl (by first | exact Or.inl rfl | exact Or.inr rfl))) (fun _ _ _ _ _ => ts_nil) (fun _ _ _ _ _ => (ed_cmp op_in_sign o2_inS (ed_v 1) (ed_glob rfl T.c_LETTERS (.str _)) rfl))) ad_nil))))), ?_⟩

  rintro ds ⟨d, rfl, hd⟩
  have fin : ∀ b : Bool, b = nameD d → post_is_name [d] (.bl b) := fun b h => ⟨d, rfl, by rw [h]⟩
  simp only [sSeq, sIf, sRet, sSet, sPar, sNext, sExpr, sFor, dV, dC, dNil, dCons, dTup, dLst, d2, dTest, fI, fIc, fEq, fNe, fIn, fIs, fIsNot, dAnd, dOr, dNot, dIf, dCall, dCallB, dLc, iL, iT, iR, iR2, dYes, fIx, dB, fLen, fSum, fAll, fAny, fInt, fTuple, fList, dIsi, fInT, fNinT, fRepr, tA, tO, tN, dU, fAbs, fAdd, oN, oS, dSl, fInS, fNinS, fMulS, fEqS, fNeS, gD, gB, sSetO, sParO, sFrz, sApp, sIns, sPut, dIxO, dSlO, dView, tView, viewB, D.plain, fNin, dChain, fRep, fOneT, fIsBl, dJoin, dSplit, dDict1, iS, fCat, fEqE, sAsg, setP, setAll, sCut, fAddS, fAddL, fAddT, fEqT0, dStep, dIndex, sPar3, dGet2, dInK, dGetK, fNeDA, fDictD, fDictP, dStar, fIsNotBl, dDc]
  simp
  cases d with
  | str x =>
    rw [if_pos (show isT "str" (D.str x) = true from rfl)]
    refine ⟨x.length, if_pos hd.len, ?_⟩
    by_cases h1 : 1 ≤ x.length
    · rw [if_pos (show (1 : Int) ≤ (x.length : Int) by omega)]
      by_cases h2 : x.length ≤ 8
      · rw [if_pos (show (x.length : Int) ≤ 8 by omega)]
        refine ⟨x, rfl, by rw [ch_len]; omega, lc_map (fun d => .bl (letD d)) (fun d hm kk h => ⟨_, rfl, ?_⟩) ⟨(chD x).map letD, congrArg D.lst (map_bl _ _), fin _ (by rw [all_id]; simp [nameD, h1, h2])⟩⟩
        simp only [sSeq, sIf, sRet, sSet, sPar, sNext, sExpr, sFor, dV, dC, dNil, dCons, dTup, dLst, d2, dTest, fI, fIc, fEq, fNe, fIn, fIs, fIsNot, dAnd, dOr, dNot, dIf, dCall, dCallB, dLc, iL, iT, iR, iR2, dYes, fIx, dB, fLen, fSum, fAll, fAny, fInt, fTuple, fList, dIsi, fInT, fNinT, fRepr, tA, tO, tN, dU, fAbs, fAdd, oN, oS, dSl, fInS, fNinS, fMulS, fEqS, fNeS, gD, gB, sSetO, sParO, sFrz, sApp, sIns, sPut, dIxO, dSlO, dView, tView, viewB, D.plain, fNin, dChain, fRep, fOneT, fIsBl, dJoin, dSplit, dDict1, iS, fCat, fEqE, sAsg, setP, setAll, sCut, fAddS, fAddL, fAddT, fEqT0, dStep, dIndex, sPar3, dGet2, dInK, dGetK, fNeDA, fDictD, fDictP, dStar, fIsNotBl, dDc, wipeG]
        simp
        obtain ⟨c, hc, rfl⟩ := ch_ok hm
        have e : letD (.str ⟨#[c]⟩) = decide (c ∈ (Str.ofString "abcdefghijklmnopqrstuvwxyz").cps) := by simp [letD, ABC]
        rw [e] at h
        exact ⟨c, rfl, h⟩
      · rw [if_neg (show ¬ (x.length : Int) ≤ 8 by omega)]
        exact fin _ (by simp [nameD, h2])
    · rw [if_neg (show ¬ (1 : Int) ≤ (x.length : Int) by omega)]
      exact fin _ (by simp [nameD, h1])
  | emp => exact hd.noE.elim
  | _ =>
    rw [if_neg (fun z => by cases z)]
    exact fin _ rfl
def pre_is_path : List D → Prop := fun ds => ∃ d, ds = [d] ∧ Ok 60 d
def post_is_path : List D → D → Prop := fun ds r => ∃ d, ds = [d] ∧ r = .bl (pathD d)
theorem ok_is_path (T : Tx K mg)  : FnG P w K mg base CX0 (1 + 1) T.f_is_path T.d_is_path ["thing"] (spD K (pre_is_path) (post_is_path)) := by
  have sc := sc_is_path
  have G_is_name := ok_is_name (P := P) (w := w) (base := base) T
  refine fnD T.F_is_path sc (fun ds ⟨d, e, _⟩ => by rw [e]; rfl) ?_
  intro cdv A fr s H E S0 hst hr
  refine ⟨_, (ss_one (sd_ret (ed_and (ed_isi (T := "tuple") rfl (ed_v 0) rfl T.z_isinstance rfl T.z_tuple (by decide +kernel) (by decide)) (ed_one (ed_blt (cr_all rfl) cc_all (by rfl) T.z_all (by decide +kernel) (ad_cons (ed_lc (p := (.nm 1)) (own := [("name", 1)]) rfl sc.nd (id_tup rfl (ed_v 0)) (blkOk_by (N := N_is_path) (sc := defScope s_is_path) (by decide +kernel)) (fun _ _ _ _ _ => (pg_name (i := 1) sc.nd rfl (by first | exact Or.inl rfl | exact Or.inr rfl))) (fun _ _ _ _ _ => ts_nil) (fun _ _ _ _ _ => (ed_call G_is_name hst (hr.mono (by first | decide | omega)) rfl T.m_is_name T.F_is_name.kp T.b_is_name (ad_cons (ed_v 1) ad_nil)))) ad_nil)))))), ?_⟩

  rintro ds ⟨d, rfl, hd⟩
  have fin : ∀ b : Bool, b = pathD d → post_is_path [d] (.bl b) := fun b h => ⟨d, rfl, by rw [h]⟩
  simp only [sSeq, sIf, sRet, sSet, sPar, sNext, sExpr, sFor, dV, dC, dNil, dCons, dTup, dLst, d2, dTest, fI, fIc, fEq, fNe, fIn, fIs, fIsNot, dAnd, dOr, dNot, dIf, dCall, dCallB, dLc, iL, iT, iR, iR2, dYes, fIx, dB, fLen, fSum, fAll, fAny, fInt, fTuple, fList, dIsi, fInT, fNinT, fRepr, tA, tO, tN, dU, fAbs, fAdd, oN, oS, dSl, fInS, fNinS, fMulS, fEqS, fNeS, gD, gB, sSetO, sParO, sFrz, sApp, sIns, sPut, dIxO, dSlO, dView, tView, viewB, D.plain, fNin, dChain, fRep, fOneT, fIsBl, dJoin, dSplit, dDict1, iS, fCat, fEqE, sAsg, setP, setAll, sCut, fAddS, fAddL, fAddT, fEqT0, dStep, dIndex, sPar3, dGet2, dInK, dGetK, fNeDA, fDictD, fDictP, dStar, fIsNotBl, dDc]
  simp
  cases d with
  | tup xs =>
    rw [if_pos (show isT "tuple" (D.tup xs) = true from rfl)]
    refine ⟨xs, rfl, by have := hd.tlen; omega, lc_map (fun d => .bl (nameD d)) (fun d hm kk h => ⟨_, rfl, ?_⟩) ⟨xs.map nameD, congrArg D.lst (map_bl _ _), fin _ (by rw [all_id]; rfl)⟩⟩
    simp only [sSeq, sIf, sRet, sSet, sPar, sNext, sExpr, sFor, dV, dC, dNil, dCons, dTup, dLst, d2, dTest, fI, fIc, fEq, fNe, fIn, fIs, fIsNot, dAnd, dOr, dNot, dIf, dCall, dCallB, dLc, iL, iT, iR, iR2, dYes, fIx, dB, fLen, fSum, fAll, fAny, fInt, fTuple, fList, dIsi, fInT, fNinT, fRepr, tA, tO, tN, dU, fAbs, fAdd, oN, oS, dSl, fInS, fNinS, fMulS, fEqS, fNeS, gD, gB, sSetO, sParO, sFrz, sApp, sIns, sPut, dIxO, dSlO, dView, tView, viewB, D.plain, fNin, dChain, fRep, fOneT, fIsBl, dJoin, dSplit, dDict1, iS, fCat, fEqE, sAsg, setP, setAll, sCut, fAddS, fAddL, fAddT, fEqT0, dStep, dIndex, sPar3, dGet2, dInK, dGetK, fNeDA, fDictD, fDictP, dStar, fIsNotBl, dDc, wipeG]
    simp
    refine ⟨⟨d, rfl, hd.of hm⟩, ?_⟩
    rintro r ⟨d', e, rfl⟩
    cases e
    exact h
  | emp => exact hd.noE.elim
  | _ =>
    rw [if_neg (fun z => by cases z)]
    exact fin _ rfl
def pre_is_text : List D → Prop := fun ds => ∃ d, ds = [d] ∧ Ok 60 d
def post_is_text : List D → D → Prop := fun ds r => ∃ d, ds = [d] ∧ r = .bl (textD d)
theorem ok_is_text (T : Tx K mg)  : FnG P w K mg base CX0 (0 + 1) T.f_is_text T.d_is_text ["thing"] (spD K (pre_is_text) (post_is_text)) := by
  have sc := sc_is_text
  refine fnD T.F_is_text sc (fun ds ⟨d, e, _⟩ => by rw [e]; rfl) ?_
  intro cdv A fr s H E S0 hst hr
  refine ⟨_, (ss_one (sd_ret (ed_and (ed_isi (T := "str") rfl (ed_v 0) rfl T.z_isinstance rfl T.z_str (by decide +kernel) (by decide)) (ed_one (ed_cmp op_le o2_blI (ed_blt call_len cc_len (by rfl) T.z_len (by decide +kernel) (ad_cons (ed_v 0) ad_nil)) (ed_glob rfl T.c_MOST_CHARACTERS (.int _)) (nomark _)))))), ?_⟩

  rintro ds ⟨d, rfl, hd⟩
  have fin : ∀ b : Bool, b = textD d → post_is_text [d] (.bl b) := fun b h => ⟨d, rfl, by rw [h]⟩
  simp only [sSeq, sIf, sRet, sSet, sPar, sNext, sExpr, sFor, dV, dC, dNil, dCons, dTup, dLst, d2, dTest, fI, fIc, fEq, fNe, fIn, fIs, fIsNot, dAnd, dOr, dNot, dIf, dCall, dCallB, dLc, iL, iT, iR, iR2, dYes, fIx, dB, fLen, fSum, fAll, fAny, fInt, fTuple, fList, dIsi, fInT, fNinT, fRepr, tA, tO, tN, dU, fAbs, fAdd, oN, oS, dSl, fInS, fNinS, fMulS, fEqS, fNeS, gD, gB, sSetO, sParO, sFrz, sApp, sIns, sPut, dIxO, dSlO, dView, tView, viewB, D.plain, fNin, dChain, fRep, fOneT, fIsBl, dJoin, dSplit, dDict1, iS, fCat, fEqE, sAsg, setP, setAll, sCut, fAddS, fAddL, fAddT, fEqT0, dStep, dIndex, sPar3, dGet2, dInK, dGetK, fNeDA, fDictD, fDictP, dStar, fIsNotBl, dDc]
  simp
  cases d with
  | str x =>
    rw [if_pos (show isT "str" (D.str x) = true from rfl)]
    refine ⟨x.length, if_pos hd.len, fin _ ?_⟩
    simp [textD]
    try omega
  | emp => exact hd.noE.elim
  | _ =>
    rw [if_neg (fun z => by cases z)]
    exact fin _ rfl
def pre_is_tagged : List D → Prop := fun ds => ∃ d t, ∃ n : Nat, ds = [d, .str t, .int n] ∧ Ok 60 d ∧ 0 < n ∧ Cmp (.str t)
def post_is_tagged : List D → D → Prop := fun ds r => ∃ d t, ∃ n : Nat, ds = [d, .str t, .int n] ∧ r = .bl (tagD t n d)
theorem ok_is_tagged (T : Tx K mg)  : FnG P w K mg base CX0 (0 + 1) T.f_is_tagged T.d_is_tagged ["thing", "tag", "many"] (spD K (pre_is_tagged) (post_is_tagged)) := by
  have sc := sc_is_tagged
  refine fnD T.F_is_tagged sc (fun ds ⟨d, t, n, e, _⟩ => by rw [e]; rfl) ?_
  intro cdv A fr s H E S0 hst hr
  refine ⟨_, (ss_one (sd_ret (ed_and (ed_isi (T := "tuple") rfl (ed_v 0) rfl T.z_isinstance rfl T.z_tuple (by decide +kernel) (by decide)) (ed_and (ed_cmp (op_eqD (hu64 hr)) o2_eq (ed_blt call_len cc_len (by rfl) T.z_len (by decide +kernel) (ad_cons (ed_v 0) ad_nil)) (ed_v 2) (nomark _)) (ed_and (ed_isi (T := "str") rfl (ed_ix rfl (ed_v 0) ed_int (fun _ _ => rfl)) rfl T.z_isinstance rfl T.z_str (by decide +kernel) (by decide)) (ed_one (ed_cmp (op_eqD (hu64 hr)) o2_eq (ed_ix rfl (ed_v 0) ed_int (fun _ _ => rfl)) (ed_v 1) (nomark _)))))))), ?_⟩

  rintro ds ⟨d, t, n, rfl, hd, n0, ht⟩
  have fin : ∀ b : Bool, b = tagD t n d → post_is_tagged [d, .str t, .int n] (.bl b) := fun b h => ⟨d, t, n, rfl, by rw [h]⟩
  simp only [sSeq, sIf, sRet, sSet, sPar, sNext, sExpr, sFor, dV, dC, dNil, dCons, dTup, dLst, d2, dTest, fI, fIc, fEq, fNe, fIn, fIs, fIsNot, dAnd, dOr, dNot, dIf, dCall, dCallB, dLc, iL, iT, iR, iR2, dYes, fIx, dB, fLen, fSum, fAll, fAny, fInt, fTuple, fList, dIsi, fInT, fNinT, fRepr, tA, tO, tN, dU, fAbs, fAdd, oN, oS, dSl, fInS, fNinS, fMulS, fEqS, fNeS, gD, gB, sSetO, sParO, sFrz, sApp, sIns, sPut, dIxO, dSlO, dView, tView, viewB, D.plain, fNin, dChain, fRep, fOneT, fIsBl, dJoin, dSplit, dDict1, iS, fCat, fEqE, sAsg, setP, setAll, sCut, fAddS, fAddL, fAddT, fEqT0, dStep, dIndex, sPar3, dGet2, dInK, dGetK, fNeDA, fDictD, fDictP, dStar, fIsNotBl, dDc]
  simp
  cases d with
  | tup ds =>
    rw [if_pos (show isT "tuple" (D.tup ds) = true from rfl)]
    refine ⟨ds.length, rfl, Cmp.int, Cmp.int, ?_⟩
    rw [eqv_int]
    by_cases h : ds.length = n
    · rw [if_pos (by rw [h]; exact beq_self_eq_true _)]
      obtain ⟨x, r, rfl⟩ : ∃ x r, ds = x :: r := by
        cases ds with
        | nil => simp at h; omega
        | cons x r => exact ⟨x, r, rfl⟩
      refine ⟨x, at0, ?_⟩
      have hx := hd.of List.mem_cons_self
      cases x with
      | str s =>
        rw [if_pos (show isT "str" (D.str s) = true from rfl)]
        refine ⟨_, at0, hx.cmpS, ht, fin _ ?_⟩
        rw [eqv_str]
        simp [tagD, headD, ← h]
      | _ =>
        rw [if_neg (fun z => by cases z)]
        exact fin _ (by simp [tagD, headD])
    · rw [if_neg (by simp; omega)]
      exact fin _ (by simp [tagD, h])
  | emp => exact hd.noE.elim
  | _ =>
    rw [if_neg (fun z => by cases z)]
    exact fin _ rfl
def pre_is_rights : List D → Prop := fun ds => ∃ d, ds = [d] ∧ Ok 60 d
def post_is_rights : List D → D → Prop := fun ds r => ∃ d, ds = [d] ∧ r = .bl (rightsD d)
theorem ok_is_rights (T : Tx K mg)  : FnG P w K mg base CX0 (1 + 1) T.f_is_rights T.d_is_rights ["thing"] (spD K (pre_is_rights) (post_is_rights)) := by
  have sc := sc_is_rights
  have G_is_integer := ok_is_integer (P := P) (w := w) (base := base) T
  refine fnD T.F_is_rights sc (fun ds ⟨d, e, _⟩ => by rw [e]; rfl) ?_
  intro cdv A fr s H E S0 hst hr
  refine ⟨_, (ss_one (sd_ret (ed_and (ed_call G_is_integer hst (hr.mono (by first | decide | omega)) rfl T.m_is_integer T.F_is_integer.kp T.b_is_integer (ad_cons (ed_v 0) ad_nil)) (ed_one (ed_chain op_le o2_blI op_le o2_blI ed_int (ed_v 0) (ed_glob rfl T.c_MOST_RIGHTS (.int _))))))), ?_⟩

  rintro ds ⟨d, rfl, hd⟩
  have fin : ∀ b : Bool, b = rightsD d → post_is_rights [d] (.bl b) := fun b h => ⟨d, rfl, by rw [h]⟩
  simp only [sSeq, sIf, sRet, sSet, sPar, sNext, sExpr, sFor, dV, dC, dNil, dCons, dTup, dLst, d2, dTest, fI, fIc, fEq, fNe, fIn, fIs, fIsNot, dAnd, dOr, dNot, dIf, dCall, dCallB, dLc, iL, iT, iR, iR2, dYes, fIx, dB, fLen, fSum, fAll, fAny, fInt, fTuple, fList, dIsi, fInT, fNinT, fRepr, tA, tO, tN, dU, fAbs, fAdd, oN, oS, dSl, fInS, fNinS, fMulS, fEqS, fNeS, gD, gB, sSetO, sParO, sFrz, sApp, sIns, sPut, dIxO, dSlO, dView, tView, viewB, D.plain, fNin, dChain, fRep, fOneT, fIsBl, dJoin, dSplit, dDict1, iS, fCat, fEqE, sAsg, setP, setAll, sCut, fAddS, fAddL, fAddT, fEqT0, dStep, dIndex, sPar3, dGet2, dInK, dGetK, fNeDA, fDictD, fDictP, dStar, fIsNotBl, dDc]
  simp
  refine ⟨⟨d, rfl, hd⟩, ?_⟩
  rintro r ⟨d', e, rfl⟩
  cases e
  cases d with
  | int i =>
    refine .inr ⟨rfl, i, rfl, ?_⟩
    by_cases h1 : 0 ≤ i
    · rw [if_pos h1]
      exact ⟨i, rfl, fin _ (by simp [rightsD, h1])⟩
    · rw [if_neg h1]
      exact fin _ (by simp [rightsD, h1])
  | _ => exact .inl ⟨rfl, fin _ rfl⟩
def pre__law_whole : List D → Prop := fun ds => ∃ d, ds = [d] ∧ Ok 60 d
def post__law_whole : List D → D → Prop := fun ds r => ∃ d, ds = [d] ∧ r = .bl (wholeD d)
theorem ok__law_whole (T : Tx K mg)  : FnG P w K mg base CX0 (0 + 1) T.f__law_whole T.d__law_whole ["_law_thing_here"] (spD K (pre__law_whole) (post__law_whole)) := by
  have sc := sc__law_whole
  refine fnD T.F__law_whole sc (fun ds ⟨d, e, _⟩ => by rw [e]; rfl) ?_
  intro cdv A fr s H E S0 hst hr
  refine ⟨_, (ss_one (sd_ret (ed_and (ed_isi (T := "int") rfl (ed_v 0) rfl T.z_isinstance rfl T.z_int (by decide +kernel) (by decide)) (ed_one (ed_not (ed_isi (T := "bool") rfl (ed_v 0) rfl T.z_isinstance rfl T.z_bool (by decide +kernel) (by decide))))))), ?_⟩

  rintro ds ⟨d, rfl, hd⟩
  have fin : ∀ b : Bool, b = wholeD d → post__law_whole [d] (.bl b) := fun b h => ⟨d, rfl, by rw [h]⟩
  simp only [sSeq, sIf, sRet, sSet, sPar, sNext, sExpr, sFor, dV, dC, dNil, dCons, dTup, dLst, d2, dTest, fI, fIc, fEq, fNe, fIn, fIs, fIsNot, dAnd, dOr, dNot, dIf, dCall, dCallB, dLc, iL, iT, iR, iR2, dYes, fIx, dB, fLen, fSum, fAll, fAny, fInt, fTuple, fList, dIsi, fInT, fNinT, fRepr, tA, tO, tN, dU, fAbs, fAdd, oN, oS, dSl, fInS, fNinS, fMulS, fEqS, fNeS, gD, gB, sSetO, sParO, sFrz, sApp, sIns, sPut, dIxO, dSlO, dView, tView, viewB, D.plain, fNin, dChain, fRep, fOneT, fIsBl, dJoin, dSplit, dDict1, iS, fCat, fEqE, sAsg, setP, setAll, sCut, fAddS, fAddL, fAddT, fEqT0, dStep, dIndex, sPar3, dGet2, dInK, dGetK, fNeDA, fDictD, fDictP, dStar, fIsNotBl, dDc]
  simp
  cases d <;> exact fin _ rfl
end
end K11
namespace K11
open PySem L2 DL
section
variable {P : Program} {w : World} {K : PySem.W.Frag} {mg : Str → Option Value} {base : Heap}
def pre_are_parts (n : Nat) : List D → Prop := fun ds => ∃ d, ds = [d] ∧ Ok n d ∧ n ≤ 60
def post_are_parts (n : Nat) : List D → D → Prop := fun ds r => ∃ d, ds = [d] ∧ r = .bl (partsD (contD n) d)
theorem ok_are_parts (T : Tx K mg) (n : Nat) (G_is_content : FnG P w K mg base CX0 (2 * n + 1) T.f_is_content T.d_is_content ["thing"] (spD K (pre_is_content n) (post_is_content n))) : FnG P w K mg base CX0 (2 * n + 1 + 1) T.f_are_parts T.d_are_parts ["thing"] (spD K (pre_are_parts n) (post_are_parts n)) := by
  have sc := sc_are_parts
  refine fnD T.F_are_parts sc (fun ds ⟨d, e, _⟩ => by rw [e]; rfl) ?_
  intro cdv A fr s H E S0 hst hr
  refine ⟨_, (ss_cons (sd_if (td_w (tw_or (td_not (td_bl (ed_isi (T := "tuple") rfl (ed_v 0) rfl T.z_isinstance rfl T.z_tuple (by decide +kernel) (by decide)) (fun _ => rfl))) (tw_or1 (td_cmp op_gt o2_blI (ed_blt call_len cc_len (by rfl) T.z_len (by decide +kernel) (ad_cons (ed_v 0) ad_nil)) (ed_glob rfl T.c_MOST_PARTS (.int _)) (nomark _))))) (ss_one (sd_ret ed_bl)) ss_nil)
      (ss_one (sd_ret (ed_blt (cr_all rfl) cc_all (by rfl) T.z_all (by decide +kernel) (ad_cons (ed_lc (p := (.nm 1)) (own := [("part", 1)]) rfl sc.nd (id_tup rfl (ed_v 0)) (blkOk_by (N := N_are_parts) (sc := defScope s_are_parts) (by decide +kernel)) (fun _ _ _ _ _ => (pg_name (i := 1) sc.nd rfl (by first | exact Or.inl rfl | exact Or.inr rfl))) (fun _ _ _ _ _ => ts_nil) (fun _ _ _ _ _ => (ed_or (ed_cmp op_isN o2_is (ed_v 1) ed_non (nomark _)) (ed_one (ed_call G_is_content hst (hr.mono (by first | decide | omega)) rfl T.m_is_content T.F_is_content.kp T.b_is_content (ad_cons (ed_v 1) ad_nil)))))) ad_nil))))), ?_⟩

  rintro ds ⟨d, rfl, hd, hn⟩
  have fin : ∀ b : Bool, b = partsD (contD n) d → post_are_parts n [d] (.bl b) := fun b h => ⟨d, rfl, by rw [h]⟩
  simp only [sSeq, sIf, sRet, sSet, sPar, sNext, sExpr, sFor, dV, dC, dNil, dCons, dTup, dLst, d2, dTest, fI, fIc, fEq, fNe, fIn, fIs, fIsNot, dAnd, dOr, dNot, dIf, dCall, dCallB, dLc, iL, iT, iR, iR2, dYes, fIx, dB, fLen, fSum, fAll, fAny, fInt, fTuple, fList, dIsi, fInT, fNinT, fRepr, tA, tO, tN, dU, fAbs, fAdd, oN, oS, dSl, fInS, fNinS, fMulS, fEqS, fNeS, gD, gB, sSetO, sParO, sFrz, sApp, sIns, sPut, dIxO, dSlO, dView, tView, viewB, D.plain, fNin, dChain, fRep, fOneT, fIsBl, dJoin, dSplit, dDict1, iS, fCat, fEqE, sAsg, setP, setAll, sCut, fAddS, fAddL, fAddT, fEqT0, dStep, dIndex, sPar3, dGet2, dInK, dGetK, fNeDA, fDictD, fDictP, dStar, fIsNotBl, dDc]
  simp
  cases d with
  | tup ps =>
    rw [if_pos (show isT "tuple" (D.tup ps) = true from rfl)]
    refine ⟨ps.length, rfl, ?_⟩
    by_cases h : ps.length ≤ 3
    · rw [if_neg (show ¬ (3 : Int) < (ps.length : Int) by omega)]
      refine ⟨ps, rfl, by omega, lc_map (fun d => .bl (d.isN || contD n d)) (fun d hm kk h2 => ⟨_, rfl, ?_⟩) ⟨ps.map fun p => p.isN || contD n p, congrArg D.lst (map_bl _ _), fin _ (by rw [all_id]; simp [partsD, h])⟩⟩
      simp only [sSeq, sIf, sRet, sSet, sPar, sNext, sExpr, sFor, dV, dC, dNil, dCons, dTup, dLst, d2, dTest, fI, fIc, fEq, fNe, fIn, fIs, fIsNot, dAnd, dOr, dNot, dIf, dCall, dCallB, dLc, iL, iT, iR, iR2, dYes, fIx, dB, fLen, fSum, fAll, fAny, fInt, fTuple, fList, dIsi, fInT, fNinT, fRepr, tA, tO, tN, dU, fAbs, fAdd, oN, oS, dSl, fInS, fNinS, fMulS, fEqS, fNeS, gD, gB, sSetO, sParO, sFrz, sApp, sIns, sPut, dIxO, dSlO, dView, tView, viewB, D.plain, fNin, dChain, fRep, fOneT, fIsBl, dJoin, dSplit, dDict1, iS, fCat, fEqE, sAsg, setP, setAll, sCut, fAddS, fAddL, fAddT, fEqT0, dStep, dIndex, sPar3, dGet2, dInK, dGetK, fNeDA, fDictD, fDictP, dStar, fIsNotBl, dDc, wipeG]
      simp
      by_cases hN : d.isN = true
      · rw [if_pos hN]
        rw [hN] at h2
        exact h2
      · rw [if_neg hN]
        rw [show (d.isN || contD n d) = contD n d by simp [hN]] at h2
        obtain ⟨k, rfl, hk⟩ := hd.item0 hm
        refine ⟨⟨d, k, rfl, rfl, hn, hk⟩, ?_⟩
        rintro r ⟨d', e, rfl⟩
        cases e
        exact h2
    · rw [if_pos (show (3 : Int) < (ps.length : Int) by omega)]
      exact fin _ (by simp [partsD, h])
  | emp => exact hd.noE.elim
  | _ =>
    rw [if_neg (fun z => by cases z)]
    exact fin _ rfl
theorem ok_is_content_step (T : Tx K mg) (n : Nat) (ih : FnG P w K mg base CX0 (2 * n + 1) T.f_is_content T.d_is_content ["thing"] (spD K (pre_is_content n) (post_is_content n)))  : FnG P w K mg base CX0 (2 * (n + 1) + 1) T.f_is_content T.d_is_content ["thing"] (spD K (pre_is_content (n + 1)) (post_is_content (n + 1))) := by
  have sc := sc_is_content
  have G_are_parts := ok_are_parts (P := P) (w := w) (base := base) T n ih
  have G_is_name := ok_is_name (P := P) (w := w) (base := base) T
  have G_is_tagged := ok_is_tagged (P := P) (w := w) (base := base) T
  have G_is_text := ok_is_text (P := P) (w := w) (base := base) T
  refine fnD T.F_is_content sc (fun ds ⟨d, m, e, _⟩ => by rw [e]; rfl) ?_
  intro cdv A fr s H E S0 hst hr
  refine ⟨_, (ss_cons (sd_if (td_bl (ed_call G_is_text hst (hr.mono (by first | decide | omega)) rfl T.m_is_text T.F_is_text.kp T.b_is_text (ad_cons (ed_v 0) ad_nil)) (fun _ => rfl)) (ss_one (sd_ret ed_bl)) ss_nil)
      (ss_one (sd_ret (ed_and (ed_call G_is_tagged hst (hr.mono (by first | decide | omega)) rfl T.m_is_tagged T.F_is_tagged.kp T.b_is_tagged (ad_cons (ed_v 0) (ad_cons ed_str (ad_cons ed_int ad_nil)))) (ed_and (ed_call G_is_name hst (hr.mono (by first | decide | omega)) rfl T.m_is_name T.F_is_name.kp T.b_is_name (ad_cons (ed_ix rfl (ed_v 0) ed_int (fun _ _ => rfl)) ad_nil)) (ed_one (ed_call G_are_parts hst (hr.mono (by first | decide | omega)) rfl T.m_are_parts T.F_are_parts.kp T.b_are_parts (ad_cons (ed_ix rfl (ed_v 0) ed_int (fun _ _ => rfl)) ad_nil)))))))), ?_⟩

  rintro ds ⟨d, m, rfl, hm, hn, hd⟩
  obtain rfl : n = m := by omega
  have fin : ∀ b : Bool, b = contD (n + 1) d → post_is_content (n + 1) [d] (.bl b) := fun b h => ⟨d, rfl, by rw [h]⟩
  simp only [sSeq, sIf, sRet, sSet, sPar, sNext, sExpr, sFor, dV, dC, dNil, dCons, dTup, dLst, d2, dTest, fI, fIc, fEq, fNe, fIn, fIs, fIsNot, dAnd, dOr, dNot, dIf, dCall, dCallB, dLc, iL, iT, iR, iR2, dYes, fIx, dB, fLen, fSum, fAll, fAny, fInt, fTuple, fList, dIsi, fInT, fNinT, fRepr, tA, tO, tN, dU, fAbs, fAdd, oN, oS, dSl, fInS, fNinS, fMulS, fEqS, fNeS, gD, gB, sSetO, sParO, sFrz, sApp, sIns, sPut, dIxO, dSlO, dView, tView, viewB, D.plain, fNin, dChain, fRep, fOneT, fIsBl, dJoin, dSplit, dDict1, iS, fCat, fEqE, sAsg, setP, setAll, sCut, fAddS, fAddL, fAddT, fEqT0, dStep, dIndex, sPar3, dGet2, dInK, dGetK, fNeDA, fDictD, fDictP, dStar, fIsNotBl, dDc]
  simp
  have hd6 : Ok 60 d := hd.le (by omega)
  refine ask (n := 60) (f := textD) hd6 (or_bl (fun h1 => ?_) fun h1 => fin _ (by simp [contD, h1]))
  refine ask_tag (n := 3) hd6 (by decide) (by decide +kernel) (or_bl (fun h2 => fin _ (by simp [contD, h1, h2])) fun h2 => ?_)
  obtain ⟨e1, k, ek, g1⟩ := tag_item (i := 1) h2 hd (by decide)
  refine ⟨_, e1, ask (n := 60) (f := nameD) (g1.le (by omega)) (or_bl (fun h3 => fin _ (by simp [contD, h1, h2, h3])) fun h3 => ?_)⟩
  obtain ⟨e2, k2, ek2, g2⟩ := tag_item (i := 2) h2 hd (by decide)
  refine ⟨_, e2, ⟨_, rfl, g2.le (by omega), by omega⟩, ?_⟩
  rintro r ⟨d', e, rfl⟩
  cases e
  exact fin _ (by simp [contD, h1, h2, h3])
theorem ok_is_content (T : Tx K mg) : ∀ n : Nat, FnG P w K mg base CX0 (2 * n + 1) T.f_is_content T.d_is_content ["thing"] (spD K (pre_is_content n) (post_is_content n))
  | 0 => FnG.no fun vs H Q E h => spD_no (fun ds ⟨_, _, _, z, _⟩ => by omega) h
  | n + 1 => ok_is_content_step T n (ok_is_content T n)
def pre_is_node : List D → Prop := fun ds => ∃ d, ds = [d] ∧ Ok 60 d
def post_is_node : List D → D → Prop := fun ds r => ∃ d, ds = [d] ∧ r = .bl (nodeD d)
theorem ok_is_node (T : Tx K mg)  : FnG P w K mg base CX0 (122 + 1) T.f_is_node T.d_is_node ["thing"] (spD K (pre_is_node) (post_is_node)) := by
  have sc := sc_is_node
  have G_is_content := ok_is_content (P := P) (w := w) (base := base) T 60
  have G_is_rights := ok_is_rights (P := P) (w := w) (base := base) T
  have G_is_tagged := ok_is_tagged (P := P) (w := w) (base := base) T
  have G_is_text := ok_is_text (P := P) (w := w) (base := base) T
  refine fnD T.F_is_node sc (fun ds ⟨d, e, _⟩ => by rw [e]; rfl) ?_
  intro cdv A fr s H E S0 hst hr
  refine ⟨_, (ss_cons (sd_if (td_bl (ed_call G_is_tagged hst (hr.mono (by first | decide | omega)) rfl T.m_is_tagged T.F_is_tagged.kp T.b_is_tagged (ad_cons (ed_v 0) (ad_cons ed_str (ad_cons ed_int ad_nil)))) (fun _ => rfl)) (ss_one (sd_ret (ed_and (ed_call G_is_content hst (hr.mono (by first | decide | omega)) rfl T.m_is_content T.F_is_content.kp T.b_is_content (ad_cons (ed_ix rfl (ed_v 0) ed_int (fun _ _ => rfl)) ad_nil)) (ed_one (ed_call G_is_rights hst (hr.mono (by first | decide | omega)) rfl T.m_is_rights T.F_is_rights.kp T.b_is_rights (ad_cons (ed_ix rfl (ed_v 0) ed_int (fun _ _ => rfl)) ad_nil)))))) ss_nil)
      (ss_cons (sd_if (td_bl (ed_call G_is_tagged hst (hr.mono (by first | decide | omega)) rfl T.m_is_tagged T.F_is_tagged.kp T.b_is_tagged (ad_cons (ed_v 0) (ad_cons ed_str (ad_cons ed_int ad_nil)))) (fun _ => rfl)) (ss_one (sd_ret (ed_call G_is_text hst (hr.mono (by first | decide | omega)) rfl T.m_is_text T.F_is_text.kp T.b_is_text (ad_cons (ed_ix rfl (ed_v 0) ed_int (fun _ _ => rfl)) ad_nil)))) ss_nil)
      (ss_one (sd_ret (ed_and (ed_call G_is_tagged hst (hr.mono (by first | decide | omega)) rfl T.m_is_tagged T.F_is_tagged.kp T.b_is_tagged (ad_cons (ed_v 0) (ad_cons ed_str (ad_cons ed_int ad_nil)))) (ed_one (ed_call G_is_rights hst (hr.mono (by first | decide | omega)) rfl T.m_is_rights T.F_is_rights.kp T.b_is_rights (ad_cons (ed_ix rfl (ed_v 0) ed_int (fun _ _ => rfl)) ad_nil)))))))), ?_⟩

  rintro ds ⟨d, rfl, hd⟩
  have fin : ∀ b : Bool, b = nodeD d → post_is_node [d] (.bl b) := fun b h => ⟨d, rfl, by rw [h]⟩
  simp only [sSeq, sIf, sRet, sSet, sPar, sNext, sExpr, sFor, dV, dC, dNil, dCons, dTup, dLst, d2, dTest, fI, fIc, fEq, fNe, fIn, fIs, fIsNot, dAnd, dOr, dNot, dIf, dCall, dCallB, dLc, iL, iT, iR, iR2, dYes, fIx, dB, fLen, fSum, fAll, fAny, fInt, fTuple, fList, dIsi, fInT, fNinT, fRepr, tA, tO, tN, dU, fAbs, fAdd, oN, oS, dSl, fInS, fNinS, fMulS, fEqS, fNeS, gD, gB, sSetO, sParO, sFrz, sApp, sIns, sPut, dIxO, dSlO, dView, tView, viewB, D.plain, fNin, dChain, fRep, fOneT, fIsBl, dJoin, dSplit, dDict1, iS, fCat, fEqE, sAsg, setP, setAll, sCut, fAddS, fAddL, fAddT, fEqT0, dStep, dIndex, sPar3, dGet2, dInK, dGetK, fNeDA, fDictD, fDictP, dStar, fIsNotBl, dDc]
  simp
  refine ask_tag (n := 3) hd (by decide) (by decide +kernel) (or_bl (fun h1 => ?_) fun h1 => ?_)
  · refine ask_tag (n := 2) hd (by decide) (by decide +kernel) (or_bl (fun h2 => ?_) fun h2 => ?_)
    · refine ask_tag (n := 2) hd (by decide) (by decide +kernel) (or_bl (fun h3 => fin _ (by simp [nodeD, h1, h2, h3])) fun h3 => ?_)
      obtain ⟨e1, k, ek, g1⟩ := tag_item (i := 1) h3 hd (by decide)
      exact ⟨_, e1, ask (n := 60) (f := rightsD) (g1.le (by omega)) (fin _ (by simp [nodeD, h1, h2, h3]))⟩
    · obtain ⟨e1, k, ek, g1⟩ := tag_item (i := 1) h2 hd (by decide)
      exact ⟨_, e1, ask (n := 60) (f := textD) (g1.le (by omega)) (fin _ (by simp [nodeD, h1, h2]))⟩
  · obtain ⟨e1, k, ek, g1⟩ := tag_item (i := 1) h1 hd (by decide)
    refine ⟨_, e1, ⟨_, 59, rfl, rfl, by omega, g1.le (by omega)⟩, ?_⟩
    rintro r ⟨d', e, rfl⟩
    cases e
    refine or_bl (fun h2 => fin _ (by simp [nodeD, h1, h2])) fun h2 => ?_
    obtain ⟨e2, k2, ek2, g2⟩ := tag_item (i := 2) h1 hd (by decide)
    exact ⟨_, e2, ask (n := 60) (f := rightsD) (g2.le (by omega)) (fin _ (by simp [nodeD, h1, h2]))⟩
def pre_is_entry : List D → Prop := fun ds => ∃ d, ds = [d] ∧ Ok 60 d
def post_is_entry : List D → D → Prop := fun ds r => ∃ d, ds = [d] ∧ r = .bl (entryD d)
theorem ok_is_entry (T : Tx K mg)  : FnG P w K mg base CX0 (123 + 1) T.f_is_entry T.d_is_entry ["thing"] (spD K (pre_is_entry) (post_is_entry)) := by
  have sc := sc_is_entry
  have G_is_node := ok_is_node (P := P) (w := w) (base := base) T
  have G_is_rights := ok_is_rights (P := P) (w := w) (base := base) T
  have G_is_tagged := ok_is_tagged (P := P) (w := w) (base := base) T
  refine fnD T.F_is_entry sc (fun ds ⟨d, e, _⟩ => by rw [e]; rfl) ?_
  intro cdv A fr s H E S0 hst hr
  refine ⟨_, (ss_cons (sd_if (td_w (tw_or (td_bl (ed_call G_is_tagged hst (hr.mono (by first | decide | omega)) rfl T.m_is_tagged T.F_is_tagged.kp T.b_is_tagged (ad_cons (ed_v 0) (ad_cons ed_str (ad_cons ed_int ad_nil)))) (fun _ => rfl)) (tw_or1 (td_bl (ed_call G_is_tagged hst (hr.mono (by first | decide | omega)) rfl T.m_is_tagged T.F_is_tagged.kp T.b_is_tagged (ad_cons (ed_v 0) (ad_cons ed_str (ad_cons ed_int ad_nil)))) (fun _ => rfl))))) (ss_one (sd_ret (ed_or (ed_cmp op_isN o2_is (ed_ix rfl (ed_v 0) ed_int (fun _ _ => rfl)) ed_non (nomark _)) (ed_one (ed_call G_is_rights hst (hr.mono (by first | decide | omega)) rfl T.m_is_rights T.F_is_rights.kp T.b_is_rights (ad_cons (ed_ix rfl (ed_v 0) ed_int (fun _ _ => rfl)) ad_nil)))))) ss_nil)
      (ss_one (sd_ret (ed_or (ed_call G_is_node hst (hr.mono (by first | decide | omega)) rfl T.m_is_node T.F_is_node.kp T.b_is_node (ad_cons (ed_v 0) ad_nil)) (ed_or (ed_call G_is_tagged hst (hr.mono (by first | decide | omega)) rfl T.m_is_tagged T.F_is_tagged.kp T.b_is_tagged (ad_cons (ed_v 0) (ad_cons ed_str (ad_cons ed_int ad_nil)))) (ed_one (ed_call G_is_tagged hst (hr.mono (by first | decide | omega)) rfl T.m_is_tagged T.F_is_tagged.kp T.b_is_tagged (ad_cons (ed_v 0) (ad_cons ed_str (ad_cons ed_int ad_nil)))))))))), ?_⟩

  rintro ds ⟨d, rfl, hd⟩
  have fin : ∀ b : Bool, b = entryD d → post_is_entry [d] (.bl b) := fun b h => ⟨d, rfl, by rw [h]⟩
  simp only [sSeq, sIf, sRet, sSet, sPar, sNext, sExpr, sFor, dV, dC, dNil, dCons, dTup, dLst, d2, dTest, fI, fIc, fEq, fNe, fIn, fIs, fIsNot, dAnd, dOr, dNot, dIf, dCall, dCallB, dLc, iL, iT, iR, iR2, dYes, fIx, dB, fLen, fSum, fAll, fAny, fInt, fTuple, fList, dIsi, fInT, fNinT, fRepr, tA, tO, tN, dU, fAbs, fAdd, oN, oS, dSl, fInS, fNinS, fMulS, fEqS, fNeS, gD, gB, sSetO, sParO, sFrz, sApp, sIns, sPut, dIxO, dSlO, dView, tView, viewB, D.plain, fNin, dChain, fRep, fOneT, fIsBl, dJoin, dSplit, dDict1, iS, fCat, fEqE, sAsg, setP, setAll, sCut, fAddS, fAddL, fAddT, fEqT0, dStep, dIndex, sPar3, dGet2, dInK, dGetK, fNeDA, fDictD, fDictP, dStar, fIsNotBl, dDc]
  simp
  have item : ∀ {t : Str}, tagD t 2 d = true → (tagD "folder" 2 d || tagD "opaque" 2 d) = true → ∃ x, ixD d 1 = some x ∧ if x.isN = true then post_is_entry [d] (.bl true) else ∃ x, ixD d 1 = some x ∧ pre_is_rights [x] ∧ ∀ r, post_is_rights [x] r → post_is_entry [d] r := fun h ho => by
    obtain ⟨e1, k, ek, g1⟩ := tag_item (i := 1) h hd (by decide)
    refine ⟨_, e1, ?_⟩
    by_cases hN : (itD 1 d).isN = true
    · rw [if_pos hN]
      exact fin _ (by rw [entryD, if_pos ho, hN]; rfl)
    · rw [if_neg hN]
      exact ⟨_, e1, ask (n := 60) (f := rightsD) (g1.le (by omega)) (fin _ (by rw [entryD, if_pos ho]; simp [hN]))⟩
  refine ask_tag (n := 2) hd (by decide) (by decide +kernel) (or_bl (fun h1 => ?_) fun h1 => item h1 (by rw [h1]; rfl))
  refine ask_tag (n := 2) hd (by decide) (by decide +kernel) (or_bl (fun h2 => ?_) fun h2 => item h2 (by rw [h2, Bool.or_true]))
  have e0 : entryD d = (nodeD d || tagD "gone" 1 d || tagD "cleared" 1 d) := by rw [entryD, if_neg (by rw [h1, h2]; exact Bool.false_ne_true)]
  refine ask (n := 60) (f := nodeD) hd (or_bl (fun h3 => ?_) fun h3 => fin _ (by rw [e0, h3]; rfl))
  refine ask_tag (n := 1) hd (by decide) (by decide +kernel) (or_bl (fun h4 => ?_) fun h4 => fin _ (by rw [e0, h3, h4]; rfl))
  exact ask_tag (n := 1) hd (by decide) (by decide +kernel) (fin _ (by rw [e0, h3, h4]; rfl))
end
end K11
namespace K11
open PySem L2 DL
section
variable {P : Program} {w : World} {K : PySem.W.Frag} {mg : Str → Option Value} {base : Heap}
def pre__law_is_name : List D → Prop := fun ds => ∃ d, ds = [d] ∧ Ok 60 d
def post__law_is_name : List D → D → Prop := fun ds r => ∃ d, ds = [d] ∧ r = .bl (nameD d)
theorem ok__law_is_name (T : Tx K mg)  : FnG P w K mg base CX0 (0 + 1) T.f__law_is_name T.d__law_is_name ["_law_thing_here"] (spD K (pre__law_is_name) (post__law_is_name)) := by
  have sc := sc__law_is_name
  refine fnD T.F__law_is_name sc (fun ds ⟨d, e, _⟩ => by rw [e]; rfl) ?_
  intro cdv A fr s H E S0 hst hr
  refine ⟨_, (ss_cons (sd_if (td_w (tw_or (td_not (td_bl (ed_isi (T := "str") rfl (ed_v 0) rfl T.z_isinstance rfl T.z_str (by decide +kernel) (by decide)) (fun _ => rfl))) (tw_or1 (td_not (td_chain op_le o2_blI op_le o2_blI ed_int (ed_blt call_len cc_len (by rfl) T.z_len (by decide +kernel) (ad_cons (ed_v 0) ad_nil)) ed_int))))) (ss_one (sd_ret ed_bl)) ss_nil)
      (ss_one (sd_ret (ed_cmp (op_eqE (hu64 hr)) o2_eqE (ed_lc (p := (.nm 1)) (own := [("_law_letter", 1)]) rfl sc.nd (id_str (ed_v 0)) (blkOk_by (N := N__law_is_name) (sc := defScope s__law_is_name) (by decide +kernel)) (fun _ _ _ _ _ => (pg_name (i := 1) sc.nd rfl (by first | exact Or.inl rfl | exact Or.inr rfl))) (fun _ _ _ _ _ => ts_one (td_cmp op_notIn_sign o2_ninS (ed_v 1) ed_str rfl)) (fun _ _ _ _ _ => (ed_v 1))) (ed_lst ad_nil) (nomark _))))), ?_⟩

  rintro ds ⟨d, rfl, hd⟩
  have fin : ∀ b : Bool, b = nameD d → post__law_is_name [d] (.bl b) := fun b h => ⟨d, rfl, by rw [h]⟩
  simp only [sSeq, sIf, sRet, sSet, sPar, sNext, sExpr, sFor, dV, dC, dNil, dCons, dTup, dLst, d2, dTest, fI, fIc, fEq, fNe, fIn, fIs, fIsNot, dAnd, dOr, dNot, dIf, dCall, dCallB, dLc, iL, iT, iR, iR2, dYes, fIx, dB, fLen, fSum, fAll, fAny, fInt, fTuple, fList, dIsi, fInT, fNinT, fRepr, tA, tO, tN, dU, fAbs, fAdd, oN, oS, dSl, fInS, fNinS, fMulS, fEqS, fNeS, gD, gB, sSetO, sParO, sFrz, sApp, sIns, sPut, dIxO, dSlO, dView, tView, viewB, D.plain, fNin, dChain, fRep, fOneT, fIsBl, dJoin, dSplit, dDict1, iS, fCat, fEqE, sAsg, setP, setAll, sCut, fAddS, fAddL, fAddT, fEqT0, dStep, dIndex, sPar3, dGet2, dInK, dGetK, fNeDA, fDictD, fDictP, dStar, fIsNotBl, dDc]
  simp
  cases d with
  | str x =>
    rw [if_pos (show isT "str" (D.str x) = true from rfl)]
    refine ⟨x.length, if_pos hd.len, ?_⟩
    by_cases h1 : 1 ≤ x.length
    · rw [if_pos (show (1 : Int) ≤ (x.length : Int) by omega)]
      by_cases h2 : x.length ≤ 8
      · rw [if_pos (show (x.length : Int) ≤ 8 by omega)]
        refine ⟨x, rfl, by rw [ch_len]; omega, lc_filter (fun d => !letD d) id (fun d hm kk h => ⟨_, rfl, ?_⟩) ⟨_, rfl, fin _ (by rw [none_left]; simp [nameD, h1, h2])⟩⟩
        simp only [sSeq, sIf, sRet, sSet, sPar, sNext, sExpr, sFor, dV, dC, dNil, dCons, dTup, dLst, d2, dTest, fI, fIc, fEq, fNe, fIn, fIs, fIsNot, dAnd, dOr, dNot, dIf, dCall, dCallB, dLc, iL, iT, iR, iR2, dYes, fIx, dB, fLen, fSum, fAll, fAny, fInt, fTuple, fList, dIsi, fInT, fNinT, fRepr, tA, tO, tN, dU, fAbs, fAdd, oN, oS, dSl, fInS, fNinS, fMulS, fEqS, fNeS, gD, gB, sSetO, sParO, sFrz, sApp, sIns, sPut, dIxO, dSlO, dView, tView, viewB, D.plain, fNin, dChain, fRep, fOneT, fIsBl, dJoin, dSplit, dDict1, iS, fCat, fEqE, sAsg, setP, setAll, sCut, fAddS, fAddL, fAddT, fEqT0, dStep, dIndex, sPar3, dGet2, dInK, dGetK, fNeDA, fDictD, fDictP, dStar, fIsNotBl, dDc, wipeG]
        simp
        obtain ⟨c, hc, rfl⟩ := ch_ok hm
        refine ⟨c, rfl, ?_⟩
        have e : letD (.str ⟨#[c]⟩) = decide (c ∈ (Str.ofString "abcdefghijklmnopqrstuvwxyz").cps) := by simp [letD, ABC]
        rw [e] at h
        by_cases hi : c ∈ (Str.ofString "abcdefghijklmnopqrstuvwxyz").cps
        · exact .inl ⟨hi, by simpa [hi] using h⟩
        · exact .inr ⟨hi, by simpa [hi] using h⟩
      · rw [if_neg (show ¬ (x.length : Int) ≤ 8 by omega)]
        exact fin _ (by simp [nameD, h2])
    · rw [if_neg (show ¬ (1 : Int) ≤ (x.length : Int) by omega)]
      exact fin _ (by simp [nameD, h1])
  | emp => exact hd.noE.elim
  | _ =>
    rw [if_neg (fun z => by cases z)]
    exact fin _ rfl
def pre__law_is_path : List D → Prop := fun ds => ∃ d, ds = [d] ∧ Ok 60 d
def post__law_is_path : List D → D → Prop := fun ds r => ∃ d, ds = [d] ∧ r = .bl (pathD d)
theorem ok__law_is_path (T : Tx K mg)  : FnG P w K mg base CX0 (1 + 1) T.f__law_is_path T.d__law_is_path ["_law_thing_here"] (spD K (pre__law_is_path) (post__law_is_path)) := by
  have sc := sc__law_is_path
  have G__law_is_name := ok__law_is_name (P := P) (w := w) (base := base) T
  refine fnD T.F__law_is_path sc (fun ds ⟨d, e, _⟩ => by rw [e]; rfl) ?_
  intro cdv A fr s H E S0 hst hr
  refine ⟨_, (ss_one (sd_ret (ed_and (ed_isi (T := "tuple") rfl (ed_v 0) rfl T.z_isinstance rfl T.z_tuple (by decide +kernel) (by decide)) (ed_one (ed_cmp (op_eqE (hu64 hr)) o2_eqE (ed_lc (p := (.nm 1)) (own := [("_law_name", 1)]) rfl sc.nd (id_tup rfl (ed_v 0)) (blkOk_by (N := N__law_is_path) (sc := defScope s__law_is_path) (by decide +kernel)) (fun _ _ _ _ _ => (pg_name (i := 1) sc.nd rfl (by first | exact Or.inl rfl | exact Or.inr rfl))) (fun _ _ _ _ _ => ts_one (td_not (td_bl (ed_call G__law_is_name hst (hr.mono (by first | decide | omega)) rfl T.m__law_is_name T.F__law_is_name.kp T.b__law_is_name (ad_cons (ed_v 1) ad_nil)) (fun _ => rfl)))) (fun _ _ _ _ _ => (ed_v 1))) (ed_lst ad_nil) (nomark _)))))), ?_⟩

  rintro ds ⟨d, rfl, hd⟩
  have fin : ∀ b : Bool, b = pathD d → post__law_is_path [d] (.bl b) := fun b h => ⟨d, rfl, by rw [h]⟩
  simp only [sSeq, sIf, sRet, sSet, sPar, sNext, sExpr, sFor, dV, dC, dNil, dCons, dTup, dLst, d2, dTest, fI, fIc, fEq, fNe, fIn, fIs, fIsNot, dAnd, dOr, dNot, dIf, dCall, dCallB, dLc, iL, iT, iR, iR2, dYes, fIx, dB, fLen, fSum, fAll, fAny, fInt, fTuple, fList, dIsi, fInT, fNinT, fRepr, tA, tO, tN, dU, fAbs, fAdd, oN, oS, dSl, fInS, fNinS, fMulS, fEqS, fNeS, gD, gB, sSetO, sParO, sFrz, sApp, sIns, sPut, dIxO, dSlO, dView, tView, viewB, D.plain, fNin, dChain, fRep, fOneT, fIsBl, dJoin, dSplit, dDict1, iS, fCat, fEqE, sAsg, setP, setAll, sCut, fAddS, fAddL, fAddT, fEqT0, dStep, dIndex, sPar3, dGet2, dInK, dGetK, fNeDA, fDictD, fDictP, dStar, fIsNotBl, dDc]
  simp
  cases d with
  | tup xs =>
    rw [if_pos (show isT "tuple" (D.tup xs) = true from rfl)]
    refine ⟨xs, rfl, by have := hd.tlen; omega, lc_filter (fun d => !nameD d) id (fun d hm kk h => ⟨_, rfl, ?_⟩) ⟨_, rfl, fin _ (by rw [none_left]; rfl)⟩⟩
    simp only [sSeq, sIf, sRet, sSet, sPar, sNext, sExpr, sFor, dV, dC, dNil, dCons, dTup, dLst, d2, dTest, fI, fIc, fEq, fNe, fIn, fIs, fIsNot, dAnd, dOr, dNot, dIf, dCall, dCallB, dLc, iL, iT, iR, iR2, dYes, fIx, dB, fLen, fSum, fAll, fAny, fInt, fTuple, fList, dIsi, fInT, fNinT, fRepr, tA, tO, tN, dU, fAbs, fAdd, oN, oS, dSl, fInS, fNinS, fMulS, fEqS, fNeS, gD, gB, sSetO, sParO, sFrz, sApp, sIns, sPut, dIxO, dSlO, dView, tView, viewB, D.plain, fNin, dChain, fRep, fOneT, fIsBl, dJoin, dSplit, dDict1, iS, fCat, fEqE, sAsg, setP, setAll, sCut, fAddS, fAddL, fAddT, fEqT0, dStep, dIndex, sPar3, dGet2, dInK, dGetK, fNeDA, fDictD, fDictP, dStar, fIsNotBl, dDc, wipeG]
    simp
    refine ask (n := 60) (f := nameD) (hd.of hm) (or_bl (fun h1 => ?_) fun h1 => ?_) <;> simpa [h1] using h
  | emp => exact (Ok.noE (by first | assumption | exact hd.of (by simp))).elim
  | _ =>
    rw [if_neg (fun z => by cases z)]
    exact fin _ rfl
def pre__law_is_text : List D → Prop := fun ds => ∃ d, ds = [d] ∧ Ok 60 d
def post__law_is_text : List D → D → Prop := fun ds r => ∃ d, ds = [d] ∧ r = .bl (textD d)
theorem ok__law_is_text (T : Tx K mg)  : FnG P w K mg base CX0 (0 + 1) T.f__law_is_text T.d__law_is_text ["_law_thing_here"] (spD K (pre__law_is_text) (post__law_is_text)) := by
  have sc := sc__law_is_text
  refine fnD T.F__law_is_text sc (fun ds ⟨d, e, _⟩ => by rw [e]; rfl) ?_
  intro cdv A fr s H E S0 hst hr
  refine ⟨_, (ss_one (sd_ret (ed_and (ed_isi (T := "str") rfl (ed_v 0) rfl T.z_isinstance rfl T.z_str (by decide +kernel) (by decide)) (ed_one (ed_cmp op_lt o2_blI (ed_blt call_len cc_len (by rfl) T.z_len (by decide +kernel) (ad_cons (ed_v 0) ad_nil)) ed_int (nomark _)))))), ?_⟩

  rintro ds ⟨d, rfl, hd⟩
  have fin : ∀ b : Bool, b = textD d → post__law_is_text [d] (.bl b) := fun b h => ⟨d, rfl, by rw [h]⟩
  simp only [sSeq, sIf, sRet, sSet, sPar, sNext, sExpr, sFor, dV, dC, dNil, dCons, dTup, dLst, d2, dTest, fI, fIc, fEq, fNe, fIn, fIs, fIsNot, dAnd, dOr, dNot, dIf, dCall, dCallB, dLc, iL, iT, iR, iR2, dYes, fIx, dB, fLen, fSum, fAll, fAny, fInt, fTuple, fList, dIsi, fInT, fNinT, fRepr, tA, tO, tN, dU, fAbs, fAdd, oN, oS, dSl, fInS, fNinS, fMulS, fEqS, fNeS, gD, gB, sSetO, sParO, sFrz, sApp, sIns, sPut, dIxO, dSlO, dView, tView, viewB, D.plain, fNin, dChain, fRep, fOneT, fIsBl, dJoin, dSplit, dDict1, iS, fCat, fEqE, sAsg, setP, setAll, sCut, fAddS, fAddL, fAddT, fEqT0, dStep, dIndex, sPar3, dGet2, dInK, dGetK, fNeDA, fDictD, fDictP, dStar, fIsNotBl, dDc]
  simp
  cases d with
  | str x =>
    rw [if_pos (show isT "str" (D.str x) = true from rfl)]
    refine ⟨x.length, if_pos hd.len, fin _ ?_⟩
    simp [textD]
    try omega
  | emp => exact hd.noE.elim
  | _ =>
    rw [if_neg (fun z => by cases z)]
    exact fin _ rfl
def pre__law_is_rights : List D → Prop := fun ds => ∃ d, ds = [d] ∧ Ok 60 d
def post__law_is_rights : List D → D → Prop := fun ds r => ∃ d, ds = [d] ∧ r = .bl (rightsD d)
theorem ok__law_is_rights (T : Tx K mg)  : FnG P w K mg base CX0 (1 + 1) T.f__law_is_rights T.d__law_is_rights ["_law_thing_here"] (spD K (pre__law_is_rights) (post__law_is_rights)) := by
  have sc := sc__law_is_rights
  have G__law_whole := ok__law_whole (P := P) (w := w) (base := base) T
  refine fnD T.F__law_is_rights sc (fun ds ⟨d, e, _⟩ => by rw [e]; rfl) ?_
  intro cdv A fr s H E S0 hst hr
  refine ⟨_, (ss_one (sd_ret (ed_and (ed_call G__law_whole hst (hr.mono (by first | decide | omega)) rfl T.m__law_whole T.F__law_whole.kp T.b__law_whole (ad_cons (ed_v 0) ad_nil)) (ed_one (ed_chain op_le o2_blI op_le o2_blI ed_int (ed_v 0) ed_int))))), ?_⟩

  rintro ds ⟨d, rfl, hd⟩
  have fin : ∀ b : Bool, b = rightsD d → post__law_is_rights [d] (.bl b) := fun b h => ⟨d, rfl, by rw [h]⟩
  simp only [sSeq, sIf, sRet, sSet, sPar, sNext, sExpr, sFor, dV, dC, dNil, dCons, dTup, dLst, d2, dTest, fI, fIc, fEq, fNe, fIn, fIs, fIsNot, dAnd, dOr, dNot, dIf, dCall, dCallB, dLc, iL, iT, iR, iR2, dYes, fIx, dB, fLen, fSum, fAll, fAny, fInt, fTuple, fList, dIsi, fInT, fNinT, fRepr, tA, tO, tN, dU, fAbs, fAdd, oN, oS, dSl, fInS, fNinS, fMulS, fEqS, fNeS, gD, gB, sSetO, sParO, sFrz, sApp, sIns, sPut, dIxO, dSlO, dView, tView, viewB, D.plain, fNin, dChain, fRep, fOneT, fIsBl, dJoin, dSplit, dDict1, iS, fCat, fEqE, sAsg, setP, setAll, sCut, fAddS, fAddL, fAddT, fEqT0, dStep, dIndex, sPar3, dGet2, dInK, dGetK, fNeDA, fDictD, fDictP, dStar, fIsNotBl, dDc]
  simp
  refine ⟨⟨d, rfl, hd⟩, ?_⟩
  rintro r ⟨d', e, rfl⟩
  cases e
  cases d with
  | int i =>
    refine .inr ⟨rfl, i, rfl, ?_⟩
    by_cases h1 : 0 ≤ i
    · rw [if_pos h1]
      exact ⟨i, rfl, fin _ (by simp [rightsD, h1])⟩
    · rw [if_neg h1]
      exact fin _ (by simp [rightsD, h1])
  | _ => exact .inl ⟨rfl, fin _ rfl⟩
theorem ok__law_is_content_step (T : Tx K mg) (n : Nat) (ih : FnG P w K mg base CX0 (n + 2) T.f__law_is_content T.d__law_is_content ["_law_thing_here"] (spD K (pre__law_is_content n) (post__law_is_content n)))  : FnG P w K mg base CX0 ((n + 1) + 2) T.f__law_is_content T.d__law_is_content ["_law_thing_here"] (spD K (pre__law_is_content (n + 1)) (post__law_is_content (n + 1))) := by
  have sc := sc__law_is_content
  have G__law_is_name := ok__law_is_name (P := P) (w := w) (base := base) T
  have G__law_is_text := ok__law_is_text (P := P) (w := w) (base := base) T
  refine fnD T.F__law_is_content sc (fun ds ⟨d, m, e, _⟩ => by rw [e]; rfl) ?_
  intro cdv A fr s H E S0 hst hr
  refine ⟨_, (ss_cons (sd_if (td_bl (ed_call G__law_is_text hst (hr.mono (by first | decide | omega)) rfl T.m__law_is_text T.F__law_is_text.kp T.b__law_is_text (ad_cons (ed_v 0) ad_nil)) (fun _ => rfl)) (ss_one (sd_ret ed_bl)) ss_nil)
      (ss_cons (sd_if (td_w (tw_or (td_not (td_bl (ed_isi (T := "tuple") rfl (ed_v 0) rfl T.z_isinstance rfl T.z_tuple (by decide +kernel) (by decide)) (fun _ => rfl))) (tw_or (td_cmp (op_neD (hu64 hr)) o2_ne (ed_blt call_len cc_len (by rfl) T.z_len (by decide +kernel) (ad_cons (ed_v 0) ad_nil)) ed_int (nomark _)) (tw_or (td_not (td_bl (ed_isi (T := "str") rfl (ed_ix rfl (ed_v 0) ed_int (fun _ _ => rfl)) rfl T.z_isinstance rfl T.z_str (by decide +kernel) (by decide)) (fun _ => rfl))) (tw_or1 (td_cmp (op_neD (hu64 hr)) o2_ne (ed_ix rfl (ed_v 0) ed_int (fun _ _ => rfl)) ed_str (nomark _))))))) (ss_one (sd_ret ed_bl)) ss_nil)
      (ss_cons (sd_if (td_w (tw_or (td_not (td_bl (ed_call G__law_is_name hst (hr.mono (by first | decide | omega)) rfl T.m__law_is_name T.F__law_is_name.kp T.b__law_is_name (ad_cons (ed_ix rfl (ed_v 0) ed_int (fun _ _ => rfl)) ad_nil)) (fun _ => rfl))) (tw_or (td_not (td_bl (ed_isi (T := "tuple") rfl (ed_ix rfl (ed_v 0) ed_int (fun _ _ => rfl)) rfl T.z_isinstance rfl T.z_tuple (by decide +kernel) (by decide)) (fun _ => rfl))) (tw_or1 (td_cmp op_gt o2_blI (ed_blt call_len cc_len (by rfl) T.z_len (by decide +kernel) (ad_cons (ed_ix rfl (ed_v 0) ed_int (fun _ _ => rfl)) ad_nil)) ed_int (nomark _)))))) (ss_one (sd_ret ed_bl)) ss_nil)
      (ss_one (sd_ret (ed_cmp (op_eqE (hu64 hr)) o2_eqE (ed_lc (p := (.nm 1)) (own := [("_law_part", 1)]) rfl sc.nd (id_tup rfl (ed_ix rfl (ed_v 0) ed_int (fun _ _ => rfl))) (blkOk_by (N := N__law_is_content) (sc := defScope s__law_is_content) (by decide +kernel)) (fun _ _ _ _ _ => (pg_name (i := 1) sc.nd rfl (by first | exact Or.inl rfl | exact Or.inr rfl))) (fun _ _ _ _ _ => ts_one (td_w (tw_and (td_cmp op_notN o2_isNot (ed_v 1) ed_non (nomark _)) (tw_and1 (td_not (td_bl (ed_call ih hst (hr.mono (by first | decide | omega)) rfl T.m__law_is_content T.F__law_is_content.kp T.b__law_is_content (ad_cons (ed_v 1) ad_nil)) (fun _ => rfl))))))) (fun _ _ _ _ _ => (ed_v 1))) (ed_lst ad_nil) (nomark _))))))), ?_⟩

  rintro ds ⟨d, m, rfl, hm, hn, hd⟩
  obtain rfl : n = m := by omega
  have fin : ∀ b : Bool, b = contD (n + 1) d → post__law_is_content (n + 1) [d] (.bl b) := fun b h => ⟨d, rfl, by rw [h]⟩
  simp only [sSeq, sIf, sRet, sSet, sPar, sNext, sExpr, sFor, dV, dC, dNil, dCons, dTup, dLst, d2, dTest, fI, fIc, fEq, fNe, fIn, fIs, fIsNot, dAnd, dOr, dNot, dIf, dCall, dCallB, dLc, iL, iT, iR, iR2, dYes, fIx, dB, fLen, fSum, fAll, fAny, fInt, fTuple, fList, dIsi, fInT, fNinT, fRepr, tA, tO, tN, dU, fAbs, fAdd, oN, oS, dSl, fInS, fNinS, fMulS, fEqS, fNeS, gD, gB, sSetO, sParO, sFrz, sApp, sIns, sPut, dIxO, dSlO, dView, tView, viewB, D.plain, fNin, dChain, fRep, fOneT, fIsBl, dJoin, dSplit, dDict1, iS, fCat, fEqE, sAsg, setP, setAll, sCut, fAddS, fAddL, fAddT, fEqT0, dStep, dIndex, sPar3, dGet2, dInK, dGetK, fNeDA, fDictD, fDictP, dStar, fIsNotBl, dDc]
  simp
  have hd6 : Ok 60 d := hd.le (by omega)
  refine ask (n := 60) (f := textD) hd6 (or_bl (fun h1 => ?_) fun h1 => fin _ (by simp [contD, h1]))
  cases d with
  | tup ds =>
    rw [if_pos (show isT "tuple" (D.tup ds) = true from rfl)]
    refine ⟨ds.length, rfl, Cmp.int, Cmp.int, ?_⟩
    rw [eqv_int]
    by_cases hl : ds.length = 3
    · obtain ⟨a, b, c, rfl⟩ := len3 hl
      refine .inl ⟨rfl, a, at0, ?_⟩
      cases a with
      | str s =>
        rw [if_pos (show isT "str" (D.str s) = true from rfl)]
        refine ⟨_, at0, (hd6.of List.mem_cons_self).cmpS, Cmp.str (by decide +kernel), ?_⟩
        rw [eqv_str]
        cases hs : s == Str.ofString "made" with
        | false => exact .inr ⟨rfl, fin _ (by simp [contD, h1, tagD, headD, hs])⟩
        | true =>
          refine .inl ⟨rfl, b, at1, ask (n := 60) (f := nameD) (hd6.of (by simp)) (or_bl (fun h3 => fin _ (by simp [contD, h1, tagD, headD, hs, itD, h3])) fun h3 => ⟨c, at2, ?_⟩)⟩
          obtain ⟨k, rfl, hc⟩ := hd.item0 (d := c) (by simp)
          cases c with
          | tup ps =>
            rw [if_pos (show isT "tuple" (D.tup ps) = true from rfl)]
            refine ⟨_, at2, ps.length, rfl, ?_⟩
            by_cases h4 : ps.length ≤ 3
            · rw [if_neg (show ¬ (3 : Int) < (ps.length : Int) by omega)]
              refine ⟨_, at2, ps, rfl, by omega, lc_filter (fun p => !(p.isN || contD (k + 1) p)) id (fun p hp kk h => ⟨_, rfl, ?_⟩) ⟨_, rfl, fin _ (by rw [none_left]; simp [contD, h1, tagD, headD, hs, itD, h3, partsD, h4])⟩⟩
              simp only [sSeq, sIf, sRet, sSet, sPar, sNext, sExpr, sFor, dV, dC, dNil, dCons, dTup, dLst, d2, dTest, fI, fIc, fEq, fNe, fIn, fIs, fIsNot, dAnd, dOr, dNot, dIf, dCall, dCallB, dLc, iL, iT, iR, iR2, dYes, fIx, dB, fLen, fSum, fAll, fAny, fInt, fTuple, fList, dIsi, fInT, fNinT, fRepr, tA, tO, tN, dU, fAbs, fAdd, oN, oS, dSl, fInS, fNinS, fMulS, fEqS, fNeS, gD, gB, sSetO, sParO, sFrz, sApp, sIns, sPut, dIxO, dSlO, dView, tView, viewB, D.plain, fNin, dChain, fRep, fOneT, fIsBl, dJoin, dSplit, dDict1, iS, fCat, fEqE, sAsg, setP, setAll, sCut, fAddS, fAddL, fAddT, fEqT0, dStep, dIndex, sPar3, dGet2, dInK, dGetK, fNeDA, fDictD, fDictP, dStar, fIsNotBl, dDc, wipeG]
              simp
              cases hN : p.isN with
              | true =>
                refine .inl ⟨rfl, ?_⟩
                simpa [hN] using h
              | false =>
                refine .inr ⟨rfl, ⟨p, k, rfl, rfl, by omega, hc.of hp⟩, ?_⟩
                rintro r ⟨d', e, rfl⟩
                cases e
                refine or_bl (fun h5 => ?_) fun h5 => ?_ <;> simpa [hN, h5] using h
            · rw [if_pos (show (3 : Int) < (ps.length : Int) by omega)]
              exact fin _ (by simp [contD, h1, tagD, headD, hs, itD, h3, partsD, h4])
          | emp => exact (Ok.noE (by first | assumption | exact hd.of (by simp))).elim
          | _ =>
            rw [if_neg (fun z => by cases z)]
            exact fin _ (by simp [contD, h1, tagD, headD, hs, itD, h3, partsD])
      | emp => exact (Ok.noE (by first | assumption | exact hd.of (by simp))).elim
      | _ =>
        rw [if_neg (fun z => by cases z)]
        exact fin _ (by simp [contD, h1, tagD, headD])
    · exact .inr ⟨by simp; omega, fin _ (by simp [contD, h1, tagD, hl])⟩
  | emp => exact (Ok.noE (by first | assumption | exact hd.of (by simp))).elim
  | _ =>
    rw [if_neg (fun z => by cases z)]
    exact fin _ (by simp [contD, h1, tagD])
theorem ok__law_is_content (T : Tx K mg) : ∀ n : Nat, FnG P w K mg base CX0 (n + 2) T.f__law_is_content T.d__law_is_content ["_law_thing_here"] (spD K (pre__law_is_content n) (post__law_is_content n))
  | 0 => FnG.no fun vs H Q E h => spD_no (fun ds ⟨_, _, _, z, _⟩ => by omega) h
  | n + 1 => ok__law_is_content_step T n (ok__law_is_content T n)
def pre__law_is_node : List D → Prop := fun ds => ∃ d, ds = [d] ∧ Ok 60 d
def post__law_is_node : List D → D → Prop := fun ds r => ∃ d, ds = [d] ∧ r = .bl (nodeD d)
theorem ok__law_is_node (T : Tx K mg)  : FnG P w K mg base CX0 (122 + 1) T.f__law_is_node T.d__law_is_node ["_law_thing_here"] (spD K (pre__law_is_node) (post__law_is_node)) := by
  have sc := sc__law_is_node
  have G__law_is_content := ok__law_is_content (P := P) (w := w) (base := base) T 60
  have G__law_is_rights := ok__law_is_rights (P := P) (w := w) (base := base) T
  have G__law_is_text := ok__law_is_text (P := P) (w := w) (base := base) T
  refine fnD T.F__law_is_node sc (fun ds ⟨d, e, _⟩ => by rw [e]; rfl) ?_
  intro cdv A fr s H E S0 hst hr
  refine ⟨_, (ss_cons (sd_if (td_w (tw_or (td_not (td_bl (ed_isi (T := "tuple") rfl (ed_v 0) rfl T.z_isinstance rfl T.z_tuple (by decide +kernel) (by decide)) (fun _ => rfl))) (tw_or (td_cmp (op_ninT (hu65 hr)) o2_ninT (ed_blt call_len cc_len (by rfl) T.z_len (by decide +kernel) (ad_cons (ed_v 0) ad_nil)) (ed_tup (ad_cons ed_int (ad_cons ed_int ad_nil))) rfl) (tw_or1 (td_not (td_bl (ed_isi (T := "str") rfl (ed_ix rfl (ed_v 0) ed_int (fun _ _ => rfl)) rfl T.z_isinstance rfl T.z_str (by decide +kernel) (by decide)) (fun _ => rfl))))))) (ss_one (sd_ret ed_bl)) ss_nil)
      (ss_cons (sd_if (td_cmp (op_eqD (hu64 hr)) o2_eq (ed_blt call_len cc_len (by rfl) T.z_len (by decide +kernel) (ad_cons (ed_v 0) ad_nil)) ed_int (nomark _)) (ss_one (sd_ret (ed_and (ed_cmp (op_eqD (hu64 hr)) o2_eq (ed_ix rfl (ed_v 0) ed_int (fun _ _ => rfl)) ed_str (nomark _)) (ed_and (ed_call G__law_is_content hst (hr.mono (by first | decide | omega)) rfl T.m__law_is_content T.F__law_is_content.kp T.b__law_is_content (ad_cons (ed_ix rfl (ed_v 0) ed_int (fun _ _ => rfl)) ad_nil)) (ed_one (ed_call G__law_is_rights hst (hr.mono (by first | decide | omega)) rfl T.m__law_is_rights T.F__law_is_rights.kp T.b__law_is_rights (ad_cons (ed_ix rfl (ed_v 0) ed_int (fun _ _ => rfl)) ad_nil))))))) ss_nil)
      (ss_one (sd_ret (ed_or (ed_and (ed_cmp (op_eqD (hu64 hr)) o2_eq (ed_ix rfl (ed_v 0) ed_int (fun _ _ => rfl)) ed_str (nomark _)) (ed_one (ed_call G__law_is_text hst (hr.mono (by first | decide | omega)) rfl T.m__law_is_text T.F__law_is_text.kp T.b__law_is_text (ad_cons (ed_ix rfl (ed_v 0) ed_int (fun _ _ => rfl)) ad_nil)))) (ed_one (ed_and (ed_cmp (op_eqD (hu64 hr)) o2_eq (ed_ix rfl (ed_v 0) ed_int (fun _ _ => rfl)) ed_str (nomark _)) (ed_one (ed_call G__law_is_rights hst (hr.mono (by first | decide | omega)) rfl T.m__law_is_rights T.F__law_is_rights.kp T.b__law_is_rights (ad_cons (ed_ix rfl (ed_v 0) ed_int (fun _ _ => rfl)) ad_nil)))))))))), ?_⟩

  rintro ds ⟨d, rfl, hd⟩
  have fin : ∀ b : Bool, b = nodeD d → post__law_is_node [d] (.bl b) := fun b h => ⟨d, rfl, by rw [h]⟩
  simp only [sSeq, sIf, sRet, sSet, sPar, sNext, sExpr, sFor, dV, dC, dNil, dCons, dTup, dLst, d2, dTest, fI, fIc, fEq, fNe, fIn, fIs, fIsNot, dAnd, dOr, dNot, dIf, dCall, dCallB, dLc, iL, iT, iR, iR2, dYes, fIx, dB, fLen, fSum, fAll, fAny, fInt, fTuple, fList, dIsi, fInT, fNinT, fRepr, tA, tO, tN, dU, fAbs, fAdd, oN, oS, dSl, fInS, fNinS, fMulS, fEqS, fNeS, gD, gB, sSetO, sParO, sFrz, sApp, sIns, sPut, dIxO, dSlO, dView, tView, viewB, D.plain, fNin, dChain, fRep, fOneT, fIsBl, dJoin, dSplit, dDict1, iS, fCat, fEqE, sAsg, setP, setAll, sCut, fAddS, fAddL, fAddT, fEqT0, dStep, dIndex, sPar3, dGet2, dInK, dGetK, fNeDA, fDictD, fDictP, dStar, fIsNotBl, dDc]
  simp
  cases d with
  | tup ds =>
    rw [if_pos (show isT "tuple" (D.tup ds) = true from rfl)]
    refine ⟨ds.length, rfl, Cmp.int, cmp2 (Fit.int (by decide)) (Fit.int (by decide)), ?_⟩
    rw [eqv_int, eqv_int]
    by_cases hl : ds.length = 2 ∨ ds.length = 3
    · have n2 : (((2 : Int) == (ds.length : Int)) = true) ∨ (((3 : Int) == (ds.length : Int)) = true) := by simp; omega
      refine .inl ⟨n2, ?_⟩
      obtain ⟨a, r, rfl⟩ : ∃ a r, ds = a :: r := by
        cases ds with
        | nil => simp at hl
        | cons a r => exact ⟨a, r, rfl⟩
      refine ⟨a, at0, ?_⟩
      cases a with
      | str s =>
        rw [if_pos (show isT "str" (D.str s) = true from rfl)]
        refine ⟨_, rfl, Cmp.int, Cmp.int, ?_⟩
        rw [eqv_int]
        have cs := (hd.of List.mem_cons_self).cmpS
        by_cases h3 : (D.str s :: r).length = 3
        · obtain ⟨b, c, rfl⟩ := len2 (ds := r) (by simpa using h3)
          rw [if_pos (by simp)]
          refine ⟨_, at0, cs, Cmp.str (by decide +kernel), ?_⟩
          rw [eqv_str]
          cases hs : s == Str.ofString "file" with
          | false =>
            rw [if_neg Bool.false_ne_true]
            exact fin _ (by simp [nodeD, tagD, headD, hs])
          | true =>
            rw [if_pos rfl]
            refine ⟨b, at1, ⟨b, 59, rfl, rfl, by omega, hd.item (by simp)⟩, ?_⟩
            rintro r ⟨d', e, rfl⟩
            cases e
            exact or_bl (fun h4 => fin _ (by simp [nodeD, tagD, headD, hs, itD, h4])) fun h4 => ⟨c, at2, ask (n := 60) (f := rightsD) (hd.of (by simp)) (fin _ (by simp [nodeD, tagD, headD, hs, itD, h4]))⟩
        · obtain ⟨b, rfl⟩ : ∃ b, r = [b] := by
            match r, hl, h3 with
            | [b], _, _ => exact ⟨b, rfl⟩
            | [], h, _ => simp at h
            | _ :: _ :: [], _, h => simp at h
            | _ :: _ :: _ :: _, h, _ => simp at h
          rw [if_neg (by simp)]
          refine ⟨_, at0, cs, Cmp.str (by decide +kernel), ?_⟩
          have fold : (s == Str.ofString "link" && textD b) = false → ∃ x, ixD (D.tup [.str s, b]) 0 = some x ∧ Cmp x ∧ Cmp (.str (Str.ofString "folder")) ∧ if x.py.eqv (D.str (Str.ofString "folder")).py = true then ∃ x, ixD (D.tup [.str s, b]) 1 = some x ∧ pre__law_is_rights [x] ∧ ∀ r, post__law_is_rights [x] r → post__law_is_node [.tup [.str s, b]] r
              else post__law_is_node [.tup [.str s, b]] (.bl false) := fun hn => by
            refine ⟨_, at0, cs, Cmp.str (by decide +kernel), ?_⟩
            rw [eqv_str]
            cases hs : s == Str.ofString "folder" with
            | false =>
              rw [if_neg Bool.false_ne_true]
              refine fin _ ?_
              cases hk : s == Str.ofString "link" with
              | false => simp [nodeD, tagD, headD, hs, hk]
              | true =>
                rw [hk, Bool.true_and] at hn
                simp [nodeD, tagD, headD, hk, itD, hn]
            | true =>
              rw [if_pos rfl]
              obtain rfl : s = Str.ofString "folder" := by simpa using hs
              have hk : (Str.ofString "folder" == Str.ofString "link") = false := by decide +kernel
              exact ⟨b, at1, ask (n := 60) (f := rightsD) (hd.of (by simp)) (fin _ (by simp [nodeD, tagD, headD, hk, itD]))⟩
          rw [eqv_str]
          cases hs : s == Str.ofString "link" with
          | false =>
            rw [if_neg Bool.false_ne_true]
            exact fold (by rw [hs]; rfl)
          | true =>
            rw [if_pos rfl]
            exact ⟨b, at1, ask (n := 60) (f := textD) (hd.of (by simp)) (or_bl (fun h4 => fold (by rw [h4, Bool.and_false])) fun h4 => fin _ (by simp [nodeD, tagD, headD, hs, itD, h4]))⟩
      | emp => exact (Ok.noE (by first | assumption | exact hd.of (by simp))).elim
      | _ =>
        rw [if_neg (fun z => by cases z)]
        exact fin _ (by simp [nodeD, tagD, headD])
    · have n2 : ¬ ds.length = 2 := fun z => hl (.inl z)
      have n3 : ¬ ds.length = 3 := fun z => hl (.inr z)
      exact .inr ⟨by simp; omega, fin _ (by simp [nodeD, tagD, n2, n3])⟩
  | emp => exact (Ok.noE (by first | assumption | exact hd.of (by simp))).elim
  | _ =>
    rw [if_neg (fun z => by cases z)]
    exact fin _ rfl
def pre__law_is_entry : List D → Prop := fun ds => ∃ d, ds = [d] ∧ Ok 60 d
def post__law_is_entry : List D → D → Prop := fun ds r => ∃ d, ds = [d] ∧ r = .bl (entryD d)
theorem ok__law_is_entry (T : Tx K mg)  : FnG P w K mg base CX0 (123 + 1) T.f__law_is_entry T.d__law_is_entry ["_law_thing_here"] (spD K (pre__law_is_entry) (post__law_is_entry)) := by
  have sc := sc__law_is_entry
  have G__law_is_node := ok__law_is_node (P := P) (w := w) (base := base) T
  have G__law_is_rights := ok__law_is_rights (P := P) (w := w) (base := base) T
  refine fnD T.F__law_is_entry sc (fun ds ⟨d, e, _⟩ => by rw [e]; rfl) ?_
  intro cdv A fr s H E S0 hst hr
  refine ⟨_, (ss_cons (sd_if (td_w (tw_or (td_not (td_bl (ed_isi (T := "tuple") rfl (ed_v 0) rfl T.z_isinstance rfl T.z_tuple (by decide +kernel) (by decide)) (fun _ => rfl))) (tw_or (td_cmp (op_eqD (hu64 hr)) o2_eq (ed_blt call_len cc_len (by rfl) T.z_len (by decide +kernel) (ad_cons (ed_v 0) ad_nil)) ed_int (nomark _)) (tw_or1 (td_not (td_bl (ed_isi (T := "str") rfl (ed_ix rfl (ed_v 0) ed_int (fun _ _ => rfl)) rfl T.z_isinstance rfl T.z_str (by decide +kernel) (by decide)) (fun _ => rfl))))))) (ss_one (sd_ret ed_bl)) ss_nil)
      (ss_cons (sd_if (td_cmp (op_eqD (hu64 hr)) o2_eq (ed_blt call_len cc_len (by rfl) T.z_len (by decide +kernel) (ad_cons (ed_v 0) ad_nil)) ed_int (nomark _)) (ss_one (sd_ret (ed_cmp (op_inT (hu65 hr)) o2_inT (ed_ix rfl (ed_v 0) ed_int (fun _ _ => rfl)) (ed_tup (ad_cons ed_str (ad_cons ed_str ad_nil))) rfl))) ss_nil)
      (ss_cons (sd_if (td_w (tw_and (td_cmp (op_eqD (hu64 hr)) o2_eq (ed_blt call_len cc_len (by rfl) T.z_len (by decide +kernel) (ad_cons (ed_v 0) ad_nil)) ed_int (nomark _)) (tw_and1 (td_cmp (op_inT (hu65 hr)) o2_inT (ed_ix rfl (ed_v 0) ed_int (fun _ _ => rfl)) (ed_tup (ad_cons ed_str (ad_cons ed_str ad_nil))) rfl)))) (ss_one (sd_ret (ed_or (ed_cmp op_isN o2_is (ed_ix rfl (ed_v 0) ed_int (fun _ _ => rfl)) ed_non (nomark _)) (ed_one (ed_call G__law_is_rights hst (hr.mono (by first | decide | omega)) rfl T.m__law_is_rights T.F__law_is_rights.kp T.b__law_is_rights (ad_cons (ed_ix rfl (ed_v 0) ed_int (fun _ _ => rfl)) ad_nil)))))) ss_nil)
      (ss_one (sd_ret (ed_call G__law_is_node hst (hr.mono (by first | decide | omega)) rfl T.m__law_is_node T.F__law_is_node.kp T.b__law_is_node (ad_cons (ed_v 0) ad_nil))))))), ?_⟩

  rintro ds ⟨d, rfl, hd⟩
  have fin : ∀ b : Bool, b = entryD d → post__law_is_entry [d] (.bl b) := fun b h => ⟨d, rfl, by rw [h]⟩
  simp only [sSeq, sIf, sRet, sSet, sPar, sNext, sExpr, sFor, dV, dC, dNil, dCons, dTup, dLst, d2, dTest, fI, fIc, fEq, fNe, fIn, fIs, fIsNot, dAnd, dOr, dNot, dIf, dCall, dCallB, dLc, iL, iT, iR, iR2, dYes, fIx, dB, fLen, fSum, fAll, fAny, fInt, fTuple, fList, dIsi, fInT, fNinT, fRepr, tA, tO, tN, dU, fAbs, fAdd, oN, oS, dSl, fInS, fNinS, fMulS, fEqS, fNeS, gD, gB, sSetO, sParO, sFrz, sApp, sIns, sPut, dIxO, dSlO, dView, tView, viewB, D.plain, fNin, dChain, fRep, fOneT, fIsBl, dJoin, dSplit, dDict1, iS, fCat, fEqE, sAsg, setP, setAll, sCut, fAddS, fAddL, fAddT, fEqT0, dStep, dIndex, sPar3, dGet2, dInK, dGetK, fNeDA, fDictD, fDictP, dStar, fIsNotBl, dDc]
  simp
  cases d with
  | tup ds =>
    rw [if_pos (show isT "tuple" (D.tup ds) = true from rfl)]
    refine ⟨ds.length, rfl, Cmp.int, Cmp.int, ?_⟩
    rw [eqv_int]
    cases ds with
    | nil =>
      rw [if_pos (by simp)]
      exact fin _ rfl
    | cons a r =>
      rw [if_neg (by simp; omega)]
      refine ⟨a, at0, ?_⟩
      cases a with
      | str s =>
        rw [if_pos (show isT "str" (D.str s) = true from rfl)]
        have cs := (hd.of List.mem_cons_self).cmpS
        have sym : ∀ t : Str, (t == s) = (s == t) := fun t => BEq.comm
        refine ⟨_, rfl, Cmp.int, Cmp.int, ?_⟩
        rw [eqv_int]
        cases r with
        | nil =>
          rw [if_pos (by simp)]
          refine ⟨_, at0, cs, cmp2 (fitS (by decide +kernel) (by decide +kernel)) (fitS (by decide +kernel) (by decide +kernel)), ?_⟩
          rw [eqv_str, eqv_str, sym, sym]
          exact fin _ (by simp [entryD, nodeD, tagD, headD])
        | cons b r =>
          rw [if_neg (by simp; omega)]
          refine ⟨_, rfl, Cmp.int, Cmp.int, ?_⟩
          rw [eqv_int]
          cases r with
          | nil =>
            rw [if_pos (by simp)]
            refine ⟨_, at0, cs, cmp2 (fitS (by decide +kernel) (by decide +kernel)) (fitS (by decide +kernel) (by decide +kernel)), ?_⟩
            rw [eqv_str, eqv_str, sym, sym]
            have e0 : (tagD "folder" 2 (.tup [.str s, b]) || tagD "opaque" 2 (.tup [.str s, b])) = (s == Str.ofString "folder" || s == Str.ofString "opaque") := by simp [tagD, headD]
            by_cases ho : (s == Str.ofString "folder") = true ∨ (s == Str.ofString "opaque") = true
            · rw [if_pos ho]
              have e1 : entryD (.tup [.str s, b]) = (b.isN || rightsD b) := by
                rw [entryD, if_pos (by rw [e0, Bool.or_eq_true]; exact ho)]
                rfl
              refine ⟨b, at1, ?_⟩
              by_cases hN : b.isN = true
              · rw [if_pos hN]
                exact fin _ (by rw [e1, hN]; rfl)
              · rw [if_neg hN]
                exact ⟨b, at1, ask (n := 60) (f := rightsD) (hd.of (by simp)) (fin _ (by rw [e1]; simp [hN]))⟩
            · rw [if_neg ho]
              refine ask (n := 60) (f := nodeD) hd (fin _ ?_)
              rw [entryD, if_neg (by rw [e0, Bool.or_eq_true]; exact ho)]
              simp [tagD]
          | cons c r =>
            rw [if_neg (by simp; omega)]
            exact ask (n := 60) (f := nodeD) hd (fin _ (by simp [entryD, tagD]))
      | emp => exact (Ok.noE (by first | assumption | exact hd.of (by simp))).elim
      | _ =>
        rw [if_neg (fun z => by cases z)]
        exact fin _ (by simp [entryD, nodeD, tagD, headD])
  | emp => exact (Ok.noE (by first | assumption | exact hd.of (by simp))).elim
  | _ =>
    rw [if_neg (fun z => by cases z)]
    exact fin _ rfl
end
end K11
namespace K11
open PySem L2 DL
section
variable {P : Program} {w : World} {K : PySem.W.Frag} {mg : Str → Option Value} {base : Heap}
def pre__law_text : List D → Prop := fun ds => ds = []
def post__law_text : List D → D → Prop := fun _ d => d ∈ txts
theorem ok__law_text (T : Tx K mg)  : FnG P w K mg base CX0 (1 + 1) T.f__law_text T.d__law_text ["_law_bag_here"] (spB K (pre__law_text) (post__law_text)) := by
  have sc := sc__law_text
  have G__law_take := ok__law_take (P := P) (w := w) (base := base) T
  refine fnB T.F__law_text sc (fun ds e => by rw [e]; rfl) ?_
  intro cdv A fr s H E S0 b l hst hr
  refine ⟨_, (ss_cons (sd_set (i := 1) sc.nd rfl (by first | exact Or.inl rfl | exact Or.inr rfl) (ed_lst (ad_cons ed_str (ad_cons ed_str (ad_cons ed_str (ad_cons ed_str (ad_cons ed_str (ad_cons ed_str (ad_cons ed_str (ad_cons ed_str (ad_cons ed_str (ad_cons ed_str (ad_cons ed_str (ad_cons (ed_op op_mulS o2_mulS ed_str ed_int) ad_nil))))))))))))))
      (ss_one (sd_ret (ed_ix rfl (ed_v 1) (ed_callB (i := 0) G__law_take hst (hr.mono (by first | decide | omega)) rfl T.m__law_take T.F__law_take.kp T.b__law_take (pa_bag 0  (ha := (ad_cons ed_int ad_nil)))) (fun _ _ => rfl))))), ?_⟩

  rintro ds rfl
  simp only [sSeq, sIf, sRet, sSet, sPar, sNext, sExpr, sFor, dV, dC, dNil, dCons, dTup, dLst, d2, dTest, fI, fIc, fEq, fNe, fIn, fIs, fIsNot, dAnd, dOr, dNot, dIf, dCall, dCallB, dLc, iL, iT, iR, iR2, dYes, fIx, dB, fLen, fSum, fAll, fAny, fInt, fTuple, fList, dIsi, fInT, fNinT, fRepr, tA, tO, tN, dU, fAbs, fAdd, oN, oS, dSl, fInS, fNinS, fMulS, fEqS, fNeS, gD, gB, sSetO, sParO, sFrz, sApp, sIns, sPut, dIxO, dSlO, dView, tView, viewB, D.plain, fNin, dChain, fRep, fOneT, fIsBl, dJoin, dSplit, dDict1, iS, fCat, fEqE, sAsg, setP, setAll, sCut, fAddS, fAddL, fAddT, fEqT0, dStep, dIndex, sPar3, dGet2, dInK, dGetK, fNeDA, fDictD, fDictP, dStar, fIsNotBl, dDc]
  simp
  refine ⟨by decide +kernel, draw (by decide) (by decide) fun i i0 i1 => ⟨i, rfl, ?_⟩⟩
  exact pick i0 (by simpa using i1) fun x hx => hx
def pre__law_content (n : Nat) : List D → Prop := fun ds => ∃ k : Int, ds = [.int k] ∧ 0 ≤ k ∧ k < n
def post__law_content (n : Nat) : List D → D → Prop := fun ds d => isC (n - 1) d
theorem ok__law_content_step (T : Tx K mg) (n : Nat) (ih : FnG P w K mg base CX0 (n + 3) T.f__law_content T.d__law_content ["_law_bag_here", "_law_deep"] (spB K (pre__law_content n) (post__law_content n)))  : FnG P w K mg base CX0 ((n + 1) + 3) T.f__law_content T.d__law_content ["_law_bag_here", "_law_deep"] (spB K (pre__law_content (n + 1)) (post__law_content (n + 1))) := by
  have sc := sc__law_content
  have G__law_take := ok__law_take (P := P) (w := w) (base := base) T
  have G__law_text := ok__law_text (P := P) (w := w) (base := base) T
  refine fnB T.F__law_content sc (fun ds ⟨d, e, _⟩ => by rw [e]; rfl) ?_
  intro cdv A fr s H E S0 b l hst hr
  refine ⟨_, (ss_cons (sd_if (td_w (tw_or (td_cmp (op_eqD (hu64 hr)) o2_eq (ed_v 1) ed_int (nomark _)) (tw_or1 (td_cmp op_gt o2_blI (ed_callB (i := 0) G__law_take hst (hr.mono (by first | decide | omega)) rfl T.m__law_take T.F__law_take.kp T.b__law_take (pa_bag 0  (ha := (ad_cons ed_int ad_nil)))) ed_int (nomark _))))) (ss_one (sd_ret (ed_callB (i := 0) G__law_text hst (hr.mono (by first | decide | omega)) rfl T.m__law_text T.F__law_text.kp T.b__law_text (pa_bag 0  (ha := ad_nil))))) ss_nil)
      (ss_cons (sd_setLc (i := 2) (hc := rfl) (hN := sc.nd) (hy := rfl) (hyl := rfl) (hsw := sw_true rfl rfl rfl (by decide +kernel)) (p := (.nm 3)) (own := [("_law_k", 3)]) (hi := (id_range rfl T.z_range (ad_cons (ed_callB (i := 0) G__law_take hst (hr.mono (by first | decide | omega)) rfl T.m__law_take T.F__law_take.kp T.b__law_take (pa_bag 0  (ha := (ad_cons ed_int ad_nil)))) ad_nil))) (ok := blkOk_by (N := N__law_content) (sc := defScope s__law_content) (by decide +kernel)) (hg := fun _ _ _ _ _ => (pg_name (i := 3) sc.nd rfl (by first | exact Or.inl rfl | exact Or.inr rfl))) (ht := fun _ _ _ _ _ => ts_nil) (he := fun _ _ _ _ _ => (ed_callB (i := 0) ih hst (hr.mono (by first | decide | omega)) rfl T.m__law_content T.F__law_content.kp T.b__law_content (pa_bag 0  (ha := (ad_cons (ed_op op_sub o2_int (ed_v 1) ed_int) ad_nil))))))
      (ss_one (sd_ret (ed_tup (ad_cons ed_str (ad_cons (ed_ix rfl (ed_lst (ad_cons ed_str (ad_cons ed_str (ad_cons ed_str ad_nil)))) (ed_callB (i := 0) G__law_take hst (hr.mono (by first | decide | omega)) rfl T.m__law_take T.F__law_take.kp T.b__law_take (pa_bag 0  (ha := (ad_cons ed_int ad_nil)))) (fun _ _ => rfl)) (ad_cons (ed_bty call_tuple_of cc_tuple (by rfl) T.z_tuple (by decide +kernel) (ad_cons (ed_lc (p := (.nm 4)) (own := [("_law_part", 4)]) rfl sc.nd (id_list rfl (ed_v 2)) (blkOk_by (N := N__law_content) (sc := defScope s__law_content) (by decide +kernel)) (fun _ _ _ _ _ => (pg_name (i := 4) sc.nd rfl (by first | exact Or.inl rfl | exact Or.inr rfl))) (fun _ _ _ _ _ => ts_nil) (fun _ _ _ _ _ => (ed_ix rfl (ed_lst (ad_cons (ed_v 4) (ad_cons ed_non ad_nil))) (ed_callB (i := 0) G__law_take hst (hr.mono (by first | decide | omega)) rfl T.m__law_take T.F__law_take.kp T.b__law_take (pa_bag 0  (ha := (ad_cons ed_int ad_nil)))) (fun _ _ => rfl)))) ad_nil)) ad_nil)))))))), ?_⟩

  rintro ds ⟨k, rfl, h0, h1⟩
  simp only [sSeq, sIf, sRet, sSet, sPar, sNext, sExpr, sFor, dV, dC, dNil, dCons, dTup, dLst, d2, dTest, fI, fIc, fEq, fNe, fIn, fIs, fIsNot, dAnd, dOr, dNot, dIf, dCall, dCallB, dLc, iL, iT, iR, iR2, dYes, fIx, dB, fLen, fSum, fAll, fAny, fInt, fTuple, fList, dIsi, fInT, fNinT, fRepr, tA, tO, tN, dU, fAbs, fAdd, oN, oS, dSl, fInS, fNinS, fMulS, fEqS, fNeS, gD, gB, sSetO, sParO, sFrz, sApp, sIns, sPut, dIxO, dSlO, dView, tView, viewB, D.plain, fNin, dChain, fRep, fOneT, fIsBl, dJoin, dSplit, dDict1, iS, fCat, fEqE, sAsg, setP, setAll, sCut, fAddS, fAddL, fAddT, fEqT0, dStep, dIndex, sPar3, dGet2, dInK, dGetK, fNeDA, fDictD, fDictP, dStar, fIsNotBl, dDc]
  simp
  have tx : ∀ d, post__law_text [] d → post__law_content (n + 1) [D.int k] d := fun d hd => by
    show isC n d
    cases n with
    | zero => exact hd
    | succ n => exact .inl hd
  refine ⟨Cmp.int, Cmp.int, ite2 (fun _ => ⟨rfl, tx⟩) fun hk => ?_⟩
  rw [eqv_int] at hk
  have hk2 : k ≠ 0 := fun z => hk (by rw [z]; rfl)
  obtain ⟨m, rfl⟩ : ∃ m, n = m + 1 := ⟨n - 1, by omega⟩
  refine draw (by decide) (by decide) fun i i0 i1 => ⟨i, rfl, ite2 (fun _ => ⟨rfl, tx⟩) fun _ => ?_⟩
  refine draw (by decide) (by decide) fun j j0 j1 => ⟨j, rfl, by omega, by omega, by rw [rng_len]; omega, ?_⟩
  refine lcK_of (fun _ out => ∃ c, out = [c] ∧ isC m c) (fun p hp kk h => ⟨_, rfl, ?_⟩) fun outs hg => ?_
  · simp only [sSeq, sIf, sRet, sSet, sPar, sNext, sExpr, sFor, dV, dC, dNil, dCons, dTup, dLst, d2, dTest, fI, fIc, fEq, fNe, fIn, fIs, fIsNot, dAnd, dOr, dNot, dIf, dCall, dCallB, dLc, iL, iT, iR, iR2, dYes, fIx, dB, fLen, fSum, fAll, fAny, fInt, fTuple, fList, dIsi, fInT, fNinT, fRepr, tA, tO, tN, dU, fAbs, fAdd, oN, oS, dSl, fInS, fNinS, fMulS, fEqS, fNeS, gD, gB, sSetO, sParO, sFrz, sApp, sIns, sPut, dIxO, dSlO, dView, tView, viewB, D.plain, fNin, dChain, fRep, fOneT, fIsBl, dJoin, dSplit, dDict1, iS, fCat, fEqE, sAsg, setP, setAll, sCut, fAddS, fAddL, fAddT, fEqT0, dStep, dIndex, sPar3, dGet2, dInK, dGetK, fNeDA, fDictD, fDictP, dStar, fIsNotBl, dDc, wipeG]
    simp
    exact ⟨⟨k - 1, rfl, by omega, by omega⟩, fun d hd => h _ ⟨d, rfl, hd⟩⟩
  · have ho : ∀ y ∈ outs, isC m y := hg.all fun d out ⟨c, e, hc⟩ y hy => by
      rw [e] at hy
      rw [List.mem_singleton.mp hy]
      exact hc
    have hol : outs.length ≤ 3 := by
      have := hg.len fun d out ⟨c, e, _⟩ => by rw [e]; exact Nat.le_refl _
      rw [rng_len] at this
      omega
    refine draw (by decide) (by decide) fun i i0 i1 => ⟨i, rfl, pick i0 (by simpa using i1) fun x hx => ⟨outs, rfl, by omega, ?_⟩⟩
    refine lcK_of (fun p out => ∃ c, out = [c] ∧ (c = p ∨ c = .non)) (fun p hp kk h => ⟨_, rfl, ?_⟩) fun outs2 hg2 => ⟨outs2, .inl rfl, ?_⟩
    · simp only [sSeq, sIf, sRet, sSet, sPar, sNext, sExpr, sFor, dV, dC, dNil, dCons, dTup, dLst, d2, dTest, fI, fIc, fEq, fNe, fIn, fIs, fIsNot, dAnd, dOr, dNot, dIf, dCall, dCallB, dLc, iL, iT, iR, iR2, dYes, fIx, dB, fLen, fSum, fAll, fAny, fInt, fTuple, fList, dIsi, fInT, fNinT, fRepr, tA, tO, tN, dU, fAbs, fAdd, oN, oS, dSl, fInS, fNinS, fMulS, fEqS, fNeS, gD, gB, sSetO, sParO, sFrz, sApp, sIns, sPut, dIxO, dSlO, dView, tView, viewB, D.plain, fNin, dChain, fRep, fOneT, fIsBl, dJoin, dSplit, dDict1, iS, fCat, fEqE, sAsg, setP, setAll, sCut, fAddS, fAddL, fAddT, fEqT0, dStep, dIndex, sPar3, dGet2, dInK, dGetK, fNeDA, fDictD, fDictP, dStar, fIsNotBl, dDc, wipeG]
      simp
      refine draw (by decide) (by decide) fun i i0 i1 => ⟨i, rfl, pick i0 (by simpa using i1) fun x hx => h _ ⟨x, rfl, ?_⟩⟩
      simpa using hx
    · have hol2 : outs2.length ≤ outs.length := hg2.len fun d out ⟨c, e, _⟩ => by rw [e]; exact Nat.le_refl _
      have ho2 : ∀ y ∈ outs2, y = .non ∨ isC m y := hg2.allFrom (fun d hd out ⟨c, e, hc⟩ y hy => by
        rw [e] at hy
        rw [List.mem_singleton.mp hy]
        rcases hc with rfl | rfl
        · exact .inr (ho _ hd)
        · exact .inl rfl)
      exact .inr ⟨x, outs2, rfl, hx, by omega, ho2⟩
theorem ok__law_content (T : Tx K mg) : ∀ n : Nat, FnG P w K mg base CX0 (n + 3) T.f__law_content T.d__law_content ["_law_bag_here", "_law_deep"] (spB K (pre__law_content n) (post__law_content n))
  | 0 => FnG.no fun vs H Q E h => spB_no (fun ds ⟨_, _, z0, z1⟩ => by omega) h
  | n + 1 => ok__law_content_step T n (ok__law_content T n)
def pre__law_node : List D → Prop := fun ds => ∃ k : Int, ds = [.int k] ∧ 0 ≤ k ∧ k < 3
def post__law_node : List D → D → Prop := fun ds d => IsNode d
theorem ok__law_node (T : Tx K mg)  : FnG P w K mg base CX0 (7 + 1) T.f__law_node T.d__law_node ["_law_bag_here", "_law_deep"] (spB K (pre__law_node) (post__law_node)) := by
  have sc := sc__law_node
  have G__law_content := ok__law_content (P := P) (w := w) (base := base) T 3
  have G__law_take := ok__law_take (P := P) (w := w) (base := base) T
  have G__law_text := ok__law_text (P := P) (w := w) (base := base) T
  refine fnB T.F__law_node sc (fun ds ⟨d, e, _⟩ => by rw [e]; rfl) ?_
  intro cdv A fr s H E S0 b l hst hr
  refine ⟨_, (ss_cons (sd_par (i := 2) (j := 3) rfl sc.nd rfl rfl (by decide) rfl rfl (ad_cons (ed_callB (i := 0) G__law_take hst (hr.mono (by first | decide | omega)) rfl T.m__law_take T.F__law_take.kp T.b__law_take (pa_bag 0  (ha := (ad_cons ed_int ad_nil)))) (ad_cons (ed_callB (i := 0) G__law_take hst (hr.mono (by first | decide | omega)) rfl T.m__law_take T.F__law_take.kp T.b__law_take (pa_bag 0  (ha := (ad_cons ed_int ad_nil)))) ad_nil)) rfl)
      (ss_cons (sd_if (td_cmp (op_eqD (hu64 hr)) o2_eq (ed_v 2) ed_int (nomark _)) (ss_one (sd_ret (ed_tup (ad_cons ed_str (ad_cons (ed_callB (i := 0) G__law_text hst (hr.mono (by first | decide | omega)) rfl T.m__law_text T.F__law_text.kp T.b__law_text (pa_bag 0  (ha := ad_nil))) ad_nil))))) ss_nil)
      (ss_one (sd_ret (ed_if (td_cmp op_lt o2_blI (ed_v 2) ed_int (nomark _)) (ed_tup (ad_cons ed_str (ad_cons (ed_callB (i := 0) G__law_content hst (hr.mono (by first | decide | omega)) rfl T.m__law_content T.F__law_content.kp T.b__law_content (pa_bag 0  (ha := (ad_cons (ed_v 1) ad_nil)))) (ad_cons (ed_v 3) ad_nil)))) (ed_tup (ad_cons ed_str (ad_cons (ed_v 3) ad_nil)))))))), ?_⟩

  rintro ds ⟨k, rfl, h0, h1⟩
  simp only [sSeq, sIf, sRet, sSet, sPar, sNext, sExpr, sFor, dV, dC, dNil, dCons, dTup, dLst, d2, dTest, fI, fIc, fEq, fNe, fIn, fIs, fIsNot, dAnd, dOr, dNot, dIf, dCall, dCallB, dLc, iL, iT, iR, iR2, dYes, fIx, dB, fLen, fSum, fAll, fAny, fInt, fTuple, fList, dIsi, fInT, fNinT, fRepr, tA, tO, tN, dU, fAbs, fAdd, oN, oS, dSl, fInS, fNinS, fMulS, fEqS, fNeS, gD, gB, sSetO, sParO, sFrz, sApp, sIns, sPut, dIxO, dSlO, dView, tView, viewB, D.plain, fNin, dChain, fRep, fOneT, fIsBl, dJoin, dSplit, dDict1, iS, fCat, fEqE, sAsg, setP, setAll, sCut, fAddS, fAddL, fAddT, fEqT0, dStep, dIndex, sPar3, dGet2, dInK, dGetK, fNeDA, fDictD, fDictP, dStar, fIsNotBl, dDc]
  simp
  refine draw (by decide) (by decide) fun i i0 i1 => draw (by decide) (by decide) fun j j0 j1 => ⟨_, _, ⟨rfl, rfl⟩, Cmp.int, Cmp.int, ite2 (fun _ => ⟨rfl, fun d hd => ?_⟩) fun _ => ⟨i, rfl, ite2 (fun _ => ⟨⟨k, rfl, h0, h1⟩, fun d hd => ?_⟩) fun _ => ?_⟩⟩
  · exact ⟨_, _, rfl, node_fit (by decide +kernel) (by decide +kernel) (by simp) fun x hx => by
      simp only [List.mem_singleton] at hx
      subst hx
      exact (txt_fit _ hd).2.mono (by decide) (by decide)⟩
  · exact ⟨_, _, rfl, node_fit (by decide +kernel) (by decide +kernel) (by simp) fun x hx => by
      simp only [List.mem_cons, List.not_mem_nil, or_false] at hx
      rcases hx with rfl | rfl
      · exact (isC_fit (n := 2) hd).mono (by decide) (by decide)
      · exact Fit.int (by omega)⟩
  · exact ⟨_, _, rfl, node_fit (by decide +kernel) (by decide +kernel) (by simp) fun x hx => by
      simp only [List.mem_singleton] at hx
      subst hx
      exact Fit.int (by omega)⟩
def pre__law_alike : List D → Prop := fun ds => ∃ d, ds = [d, d] ∧ Fit 60 200000 d
def post__law_alike : List D → D → Prop := fun ds d => d = .bl true
theorem ok__law_alike (T : Tx K mg)  : FnG P w K mg base CX0 (0 + 1) T.f__law_alike T.d__law_alike ["_law_found", "_law_due"] (spD K (pre__law_alike) (post__law_alike)) := by
  have sc := sc__law_alike
  refine fnD T.F__law_alike sc (fun ds ⟨d, e, _⟩ => by rw [e]; rfl) ?_
  intro cdv A fr s H E S0 hst hr
  refine ⟨_, (ss_one (sd_ret (ed_and (ed_cmp (op_eqD (hu64 hr)) o2_eq (ed_v 0) (ed_v 1) (nomark _)) (ed_one (ed_cmp op_eq o2_eqS (ed_blt (call_repr hst (hu70 hr)) cc_repr (by rfl) T.z_repr (by decide +kernel) (ad_cons (ed_v 0) ad_nil)) (ed_blt (call_repr hst (hu70 hr)) cc_repr (by rfl) T.z_repr (by decide +kernel) (ad_cons (ed_v 1) ad_nil)) (nomark _)))))), ?_⟩

  rintro ds ⟨d, rfl, hd⟩
  simp only [sSeq, sIf, sRet, sSet, sPar, sNext, sExpr, sFor, dV, dC, dNil, dCons, dTup, dLst, d2, dTest, fI, fIc, fEq, fNe, fIn, fIs, fIsNot, dAnd, dOr, dNot, dIf, dCall, dCallB, dLc, iL, iT, iR, iR2, dYes, fIx, dB, fLen, fSum, fAll, fAny, fInt, fTuple, fList, dIsi, fInT, fNinT, fRepr, tA, tO, tN, dU, fAbs, fAdd, oN, oS, dSl, fInS, fNinS, fMulS, fEqS, fNeS, gD, gB, sSetO, sParO, sFrz, sApp, sIns, sPut, dIxO, dSlO, dView, tView, viewB, D.plain, fNin, dChain, fRep, fOneT, fIsBl, dJoin, dSplit, dDict1, iS, fCat, fEqE, sAsg, setP, setAll, sCut, fAddS, fAddL, fAddT, fEqT0, dStep, dIndex, sPar3, dGet2, dInK, dGetK, fNeDA, fDictD, fDictP, dStar, fIsNotBl, dDc]
  simp
  refine ⟨hd.cmp (by decide), ?_⟩
  rw [hd.eq, if_pos rfl]
  exact ⟨hd.shw (by decide) (by decide), rfl⟩
def pre__law_entry : List D → Prop := fun ds => ds = []
def post__law_entry : List D → D → Prop := fun _ d => Fit 5 6000 d
theorem ok__law_entry (T : Tx K mg)  : FnG P w K mg base CX0 (8 + 1) T.f__law_entry T.d__law_entry ["_law_bag_here"] (spB K (pre__law_entry) (post__law_entry)) := by
  have sc := sc__law_entry
  have G__law_node := ok__law_node (P := P) (w := w) (base := base) T
  have G__law_take := ok__law_take (P := P) (w := w) (base := base) T
  refine fnB T.F__law_entry sc (fun ds e => by rw [e]; rfl) ?_
  intro cdv A fr s H E S0 b l hst hr
  refine ⟨_, (ss_cons (sd_set (i := 1) sc.nd rfl (by first | exact Or.inl rfl | exact Or.inr rfl) (ed_ix rfl (ed_lst (ad_cons ed_non (ad_cons ed_int (ad_cons ed_int (ad_cons ed_int ad_nil))))) (ed_callB (i := 0) G__law_take hst (hr.mono (by first | decide | omega)) rfl T.m__law_take T.F__law_take.kp T.b__law_take (pa_bag 0  (ha := (ad_cons ed_int ad_nil)))) (fun _ _ => rfl)))
      (ss_one (sd_ret (ed_ix rfl (ed_lst (ad_cons (ed_callB (i := 0) G__law_node hst (hr.mono (by first | decide | omega)) rfl T.m__law_node T.F__law_node.kp T.b__law_node (pa_bag 0  (ha := (ad_cons ed_int ad_nil)))) (ad_cons (ed_tup (ad_cons ed_str (ad_cons (ed_v 1) ad_nil))) (ad_cons (ed_tup (ad_cons ed_str (ad_cons (ed_v 1) ad_nil))) (ad_cons (ed_tup (ad_cons ed_str ad_nil)) (ad_cons (ed_tup (ad_cons ed_str ad_nil)) ad_nil)))))) (ed_callB (i := 0) G__law_take hst (hr.mono (by first | decide | omega)) rfl T.m__law_take T.F__law_take.kp T.b__law_take (pa_bag 0  (ha := (ad_cons ed_int ad_nil)))) (fun _ _ => rfl))))), ?_⟩

  rintro ds rfl
  simp only [sSeq, sIf, sRet, sSet, sPar, sNext, sExpr, sFor, dV, dC, dNil, dCons, dTup, dLst, d2, dTest, fI, fIc, fEq, fNe, fIn, fIs, fIsNot, dAnd, dOr, dNot, dIf, dCall, dCallB, dLc, iL, iT, iR, iR2, dYes, fIx, dB, fLen, fSum, fAll, fAny, fInt, fTuple, fList, dIsi, fInT, fNinT, fRepr, tA, tO, tN, dU, fAbs, fAdd, oN, oS, dSl, fInS, fNinS, fMulS, fEqS, fNeS, gD, gB, sSetO, sParO, sFrz, sApp, sIns, sPut, dIxO, dSlO, dView, tView, viewB, D.plain, fNin, dChain, fRep, fOneT, fIsBl, dJoin, dSplit, dDict1, iS, fCat, fEqE, sAsg, setP, setAll, sCut, fAddS, fAddL, fAddT, fEqT0, dStep, dIndex, sPar3, dGet2, dInK, dGetK, fNeDA, fDictD, fDictP, dStar, fIsNotBl, dDc]
  simp
  refine draw (by decide) (by decide) fun i i0 i1 => ⟨i, rfl, pick i0 (by simpa using i1) fun x hx => ⟨⟨2, rfl, by decide, by decide⟩, fun nd hnd => draw (by decide) (by decide) fun j j0 j1 => ⟨j, rfl, pick j0 (by simpa using j1) fun y hy => ?_⟩⟩⟩
  have fx : Fit 0 10 x := by
    simp only [List.mem_cons, List.not_mem_nil, or_false] at hx
    rcases hx with rfl | rfl | rfl | rfl
    · exact Fit.non
    · exact Fit.int (by decide)
    · exact Fit.int (by decide)
    · exact Fit.int (by decide)
  simp only [List.mem_cons, List.not_mem_nil, or_false] at hy
  rcases hy with rfl | rfl | rfl | rfl | rfl
  · exact hnd.choose_spec.choose_spec.2
  · exact node_fit (by decide +kernel) (by decide +kernel) (by simp) fun z hz => by
      rw [List.mem_singleton.mp hz]
      exact fx.mono (by decide) (by decide)
  · exact node_fit (by decide +kernel) (by decide +kernel) (by simp) fun z hz => by
      rw [List.mem_singleton.mp hz]
      exact fx.mono (by decide) (by decide)
  · exact node_fit (by decide +kernel) (by decide +kernel) (by simp) (by simp)
  · exact node_fit (by decide +kernel) (by decide +kernel) (by simp) (by simp)
end
end K11
namespace K11
open PySem L2 DL
section
variable {P : Program} {w : World} {K : PySem.W.Frag} {mg : Str → Option Value} {base : Heap}
def pre__law_names : List D → Prop := fun ds => ds = [.int 4]
def post__law_names : List D → D → Prop := fun _ d => ∃ ns, d = .lst ns ∧ ns.length = 4 ∧ ∀ n ∈ ns, IsNm n
theorem ok__law_names (T : Tx K mg)  : FnG P w K mg base CX0 (1 + 1) T.f__law_names T.d__law_names ["_law_bag_here", "_law_many"] (spB K (pre__law_names) (post__law_names)) := by
  have sc := sc__law_names
  have G__law_take := ok__law_take (P := P) (w := w) (base := base) T
  refine fnB T.F__law_names sc (fun ds e => by rw [e]; rfl) ?_
  intro cdv A fr s H E S0 b l hst hr
  refine ⟨_, (ss_cons (sd_set (i := 2) sc.nd rfl (by first | exact Or.inl rfl | exact Or.inr rfl) ed_str)
      (ss_cons (sd_set (i := 3) sc.nd rfl (by first | exact Or.inl rfl | exact Or.inr rfl) ed_str)
      (ss_cons (sd_set (i := 3) sc.nd rfl (by first | exact Or.inl rfl | exact Or.inr rfl) (ed_split (ed_op op_add_str o2_addS (ed_v 3) ed_str) ed_str))
      (ss_cons (sd_asg (p := (.tp [4, 5])) (ed_tup (ad_cons (ed_callB (i := 0) G__law_take hst (hr.mono (by first | decide | omega)) rfl T.m__law_take T.F__law_take.kp T.b__law_take (pa_bag 0  (ha := (ad_cons ed_int ad_nil)))) (ad_cons (ed_callB (i := 0) G__law_take hst (hr.mono (by first | decide | omega)) rfl T.m__law_take T.F__law_take.kp T.b__law_take (pa_bag 0  (ha := (ad_cons ed_int ad_nil)))) ad_nil))) (pg_tup rfl (pgs_cons (pg_name (i := 4) sc.nd rfl (by first | exact Or.inl rfl | exact Or.inr rfl)) (pgs_cons (pg_name (i := 5) sc.nd rfl (by first | exact Or.inl rfl | exact Or.inr rfl)) pgs_nil))))
      (ss_cons (sd_set (i := 6) sc.nd rfl (by first | exact Or.inl rfl | exact Or.inr rfl) (ed_join rfl ed_str (ed_lc (p := (.nm 7)) (own := [("_law_k", 7)]) rfl sc.nd (id_range rfl T.z_range (ad_cons (ed_op op_add o2_int ed_int (ed_callB (i := 0) G__law_take hst (hr.mono (by first | decide | omega)) rfl T.m__law_take T.F__law_take.kp T.b__law_take (pa_bag 0  (ha := (ad_cons ed_int ad_nil))))) ad_nil)) (blkOk_by (N := N__law_names) (sc := defScope s__law_names) (by decide +kernel)) (fun _ _ _ _ _ => (pg_name (i := 7) sc.nd rfl (by first | exact Or.inl rfl | exact Or.inr rfl))) (fun _ _ _ _ _ => ts_nil) (fun _ _ _ _ _ => (ed_ix rfl (ed_v 2) (ed_callB (i := 0) G__law_take hst (hr.mono (by first | decide | omega)) rfl T.m__law_take T.F__law_take.kp T.b__law_take (pa_bag 0  (ha := (ad_cons ed_int ad_nil)))) (fun _ _ => rfl))))))
      (ss_cons (sd_set (i := 8) sc.nd rfl (by first | exact Or.inl rfl | exact Or.inr rfl) (ed_callB (i := 0) G__law_take hst (hr.mono (by first | decide | omega)) rfl T.m__law_take T.F__law_take.kp T.b__law_take (pa_bag 0  (ha := (ad_cons (ed_op op_add o2_int (ed_blt call_len cc_len (by rfl) T.z_len (by decide +kernel) (ad_cons (ed_v 6) ad_nil)) ed_int) ad_nil)))))
      (ss_cons (sd_if (td_cmp (op_eqD (hu64 hr)) o2_eq (ed_v 4) ed_int (nomark _)) (ss_one (sd_ret (ed_slice rfl (ed_op op_cat o2_addL (ed_slice rfl (ed_v 3) (og_some (ed_v 5)) og_none) (ed_slice rfl (ed_v 3) og_none (og_some (ed_v 5)))) og_none (og_some (ed_v 1))))) ss_nil)
      (ss_cons (sd_if (td_cmp (op_eqD (hu64 hr)) o2_eq (ed_v 4) ed_int (nomark _)) (ss_one (sd_ret (ed_lc (p := (.nm 7)) (own := [("_law_k", 7)]) rfl sc.nd (id_range rfl T.z_range (ad_cons (ed_v 1) ad_nil)) (blkOk_by (N := N__law_names) (sc := defScope s__law_names) (by decide +kernel)) (fun _ _ _ _ _ => (pg_name (i := 7) sc.nd rfl (by first | exact Or.inl rfl | exact Or.inr rfl))) (fun _ _ _ _ _ => ts_nil) (fun _ _ _ _ _ => (ed_ix rfl (ed_v 2) (ed_op op_mod o2_intC (ed_op op_add o2_int (ed_v 5) (ed_op op_mul o2_intC ed_int (ed_v 7))) ed_int) (fun _ _ => rfl)))))) ss_nil)
      (ss_one (sd_ret (ed_lc (p := (.nm 7)) (own := [("_law_k", 7)]) rfl sc.nd (id_range rfl T.z_range (ad_cons (ed_v 1) ad_nil)) (blkOk_by (N := N__law_names) (sc := defScope s__law_names) (by decide +kernel)) (fun _ _ _ _ _ => (pg_name (i := 7) sc.nd rfl (by first | exact Or.inl rfl | exact Or.inr rfl))) (fun _ _ _ _ _ => ts_nil) (fun _ _ _ _ _ => (ed_op op_add_str o2_addS (ed_op op_add_str o2_addS (ed_slice rfl (ed_v 6) og_none (og_some (ed_v 8))) (ed_ix rfl (ed_v 2) (ed_op op_mod o2_intC (ed_op op_add o2_int (ed_v 5) (ed_op op_mul o2_intC ed_int (ed_v 7))) ed_int) (fun _ _ => rfl))) (ed_slice rfl (ed_v 6) (og_some (ed_v 8)) og_none)))))))))))))), ?_⟩

  rintro ds rfl
  simp only [sSeq, sIf, sRet, sSet, sPar, sNext, sExpr, sFor, dV, dC, dNil, dCons, dTup, dLst, d2, dTest, fI, fIc, fEq, fNe, fIn, fIs, fIsNot, dAnd, dOr, dNot, dIf, dCall, dCallB, dLc, iL, iT, iR, iR2, dYes, fIx, dB, fLen, fSum, fAll, fAny, fInt, fTuple, fList, dIsi, fInT, fNinT, fRepr, tA, tO, tN, dU, fAbs, fAdd, oN, oS, dSl, fInS, fNinS, fMulS, fEqS, fNeS, gD, gB, sSetO, sParO, sFrz, sApp, sIns, sPut, dIxO, dSlO, dView, tView, viewB, D.plain, fNin, dChain, fRep, fOneT, fIsBl, dJoin, dSplit, dDict1, iS, fCat, fEqE, sAsg, setP, setAll, sCut, fAddS, fAddL, fAddT, fEqT0, dStep, dIndex, sPar3, dGet2, dInK, dGetK, fNeDA, fDictD, fDictP, dStar, fIsNotBl, dDc]
  simp
  refine ⟨by decide +kernel, by decide +kernel, by decide +kernel, draw (by decide) (by decide) fun w w0 w1 => draw (by decide) (by decide) fun t t0 t1 => draw (by decide) (by decide) fun m m0 m1 => ⟨m, rfl, by omega, by omega, by rw [rng_len]; omega, ?_⟩⟩
  have abc : TxB 26 (Str.ofString "abcdefghijklmnopqrstuvwxyz") := TxB.of (by decide +kernel) (by decide +kernel)
  have abcl : (Str.ofString "abcdefghijklmnopqrstuvwxyz").cps.toList.length = 26 := by decide +kernel
  refine lcK_of (fun _ out => ∃ s, out = [.str s] ∧ TxB 1 s) (fun d hd kk h => ⟨_, rfl, ?_⟩) fun outs hg => ?_
  · simp only [sSeq, sIf, sRet, sSet, sPar, sNext, sExpr, sFor, dV, dC, dNil, dCons, dTup, dLst, d2, dTest, fI, fIc, fEq, fNe, fIn, fIs, fIsNot, dAnd, dOr, dNot, dIf, dCall, dCallB, dLc, iL, iT, iR, iR2, dYes, fIx, dB, fLen, fSum, fAll, fAny, fInt, fTuple, fList, dIsi, fInT, fNinT, fRepr, tA, tO, tN, dU, fAbs, fAdd, oN, oS, dSl, fInS, fNinS, fMulS, fEqS, fNeS, gD, gB, sSetO, sParO, sFrz, sApp, sIns, sPut, dIxO, dSlO, dView, tView, viewB, D.plain, fNin, dChain, fRep, fOneT, fIsBl, dJoin, dSplit, dDict1, iS, fCat, fEqE, sAsg, setP, setAll, sCut, fAddS, fAddL, fAddT, fEqT0, dStep, dIndex, sPar3, dGet2, dInK, dGetK, fNeDA, fDictD, fDictP, dStar, fIsNotBl, dDc, wipeG]
    simp
    exact draw (by decide) (by decide) fun i i0 i1 => ⟨i, rfl, ix_txt abc (by decide) i0 (by rw [abcl]; exact i1) fun c hc => h _ ⟨_, rfl, hc⟩⟩
  obtain ⟨ys, rfl, hy⟩ := strs_some (b := 1) (outs := outs) (hg.all fun d out ⟨s, e, hs⟩ y hm => by
    rw [e] at hm
    rw [List.mem_singleton.mp hm]
    exact ⟨s, rfl, hs⟩)
  have hyl : ys.length = (1 + m).toNat := by
    have := hg.len1 fun d out ⟨s, e, _⟩ => by rw [e]; rfl
    rwa [List.length_map, rng_len] at this
  have hbase : TxB 7 (Txt.join (Str.ofString "") ys) := (TxB.join hy).mono (by omega)
  have hl := hbase.len
  have hs := strs_sum hy
  refine ⟨ys, rfl, by rw [show (Str.ofString "").length = 0 from rfl]; omega, (Txt.join (Str.ofString "") ys).length, if_pos (by have := sizeL; omega), draw (by omega) (by omega) fun k k0 k1 => ⟨Cmp.int, Cmp.int, ?_⟩⟩
  rw [eqv_int]
  by_cases hw : w = 0
  · rw [if_pos (by simp [hw])]
    have hW : (Txt.split (Str.ofString "file link folder gone cleared opaque keep made write delete clear copy rights run path arg text stage" ++ Str.ofString " a b ab zz all content") (Str.ofString " ")).length = 24 ∧
        (Txt.split (Str.ofString "file link folder gone cleared opaque keep made write delete clear copy rights run path arg text stage" ++ Str.ofString " a b ab zz all content") (Str.ofString " ")).all (fun s => s.cps.all (· < 0x110000) && decide (s.cps.size ≤ 16)) = true := by decide +kernel
    generalize Txt.split (Str.ofString "file link folder gone cleared opaque keep made write delete clear copy rights run path arg text stage" ++ Str.ofString " a b ab zz all content") (Str.ofString " ") = ws at hW ⊢
    obtain ⟨w24, wall⟩ := hW
    have L24 : (ws.map D.str).length = 24 := by rw [List.length_map]; exact w24
    have nm : ∀ x ∈ ws.map D.str, IsNm x := fun x hx => by
      obtain ⟨s, hs, rfl⟩ := List.mem_map.mp hx
      have := List.all_eq_true.mp wall s hs
      rw [Bool.and_eq_true, decide_eq_true_eq] at this
      exact ⟨s, rfl, TxB.of this.1 this.2⟩
    have both : (cutD (ws.map D.str) (some t) none).length + (cutD (ws.map D.str) none (some t)).length = 24 := by
      rw [cut_lo t0, cut_hi t0, List.length_take, List.length_drop]
      omega
    refine ⟨t, rfl, _, rfl, t, rfl, _, rfl, _, rfl, _, rfl, by omega, _, rfl, _, rfl, ?_, fun x hx => ?_⟩
    · rw [cut_hi (by decide), List.length_take, List.length_append]
      have : (4 : Int).toNat = 4 := rfl
      omega
    · exact (List.mem_append.mp (cutD_mem hx)).elim (fun z => nm x (cutD_mem z)) (fun z => nm x (cutD_mem z))
  · rw [if_neg (by simp [hw])]
    refine ⟨Cmp.int, Cmp.int, ?_⟩
    rw [eqv_int]
    have done : ∀ outs : List D, Gives (fun _ out => ∃ s, out = [D.str s] ∧ TxB 16 s) (rngD 0 4) outs → post__law_names [.int 4] (.lst ([] ++ outs)) := fun outs hg => by
      refine ⟨outs, rfl, ?_, hg.all fun d out ⟨s, e, hs⟩ y hm => ?_⟩
      · have := hg.len1 fun d out ⟨s, e, _⟩ => by rw [e]; rfl
        rwa [rng_len] at this
      · rw [e] at hm
        rw [List.mem_singleton.mp hm]
        exact ⟨s, rfl, hs⟩
    by_cases hw1 : w = 1
    · rw [if_pos (by simp [hw1])]
      refine ⟨by rw [rng_len]; decide, lcK_of (fun _ out => ∃ s, out = [.str s] ∧ TxB 16 s) (fun d hd kk h => ⟨_, rfl, ?_⟩) done⟩
      simp only [sSeq, sIf, sRet, sSet, sPar, sNext, sExpr, sFor, dV, dC, dNil, dCons, dTup, dLst, d2, dTest, fI, fIc, fEq, fNe, fIn, fIs, fIsNot, dAnd, dOr, dNot, dIf, dCall, dCallB, dLc, iL, iT, iR, iR2, dYes, fIx, dB, fLen, fSum, fAll, fAny, fInt, fTuple, fList, dIsi, fInT, fNinT, fRepr, tA, tO, tN, dU, fAbs, fAdd, oN, oS, dSl, fInS, fNinS, fMulS, fEqS, fNeS, gD, gB, sSetO, sParO, sFrz, sApp, sIns, sPut, dIxO, dSlO, dView, tView, viewB, D.plain, fNin, dChain, fRep, fOneT, fIsBl, dJoin, dSplit, dDict1, iS, fCat, fEqE, sAsg, setP, setAll, sCut, fAddS, fAddL, fAddT, fEqT0, dStep, dIndex, sPar3, dGet2, dInK, dGetK, fNeDA, fDictD, fDictP, dStar, fIsNotBl, dDc, wipeG]
      simp
      obtain ⟨x, rfl, x0, x1⟩ := rng_mem hd
      exact ⟨x, rfl, .inl ⟨by decide, by decide⟩, ix_txt abc (by decide) (Int.emod_nonneg _ (by decide)) (by rw [abcl]; exact Int.emod_lt_of_pos _ (by decide)) fun c hc => h _ ⟨_, rfl, hc.mono (by decide)⟩⟩
    · rw [if_neg (by simp [hw1])]
      refine ⟨by rw [rng_len]; decide, lcK_of (fun _ out => ∃ s, out = [.str s] ∧ TxB 16 s) (fun d hd kk h => ⟨_, rfl, ?_⟩) done⟩
      simp only [sSeq, sIf, sRet, sSet, sPar, sNext, sExpr, sFor, dV, dC, dNil, dCons, dTup, dLst, d2, dTest, fI, fIc, fEq, fNe, fIn, fIs, fIsNot, dAnd, dOr, dNot, dIf, dCall, dCallB, dLc, iL, iT, iR, iR2, dYes, fIx, dB, fLen, fSum, fAll, fAny, fInt, fTuple, fList, dIsi, fInT, fNinT, fRepr, tA, tO, tN, dU, fAbs, fAdd, oN, oS, dSl, fInS, fNinS, fMulS, fEqS, fNeS, gD, gB, sSetO, sParO, sFrz, sApp, sIns, sPut, dIxO, dSlO, dView, tView, viewB, D.plain, fNin, dChain, fRep, fOneT, fIsBl, dJoin, dSplit, dDict1, iS, fCat, fEqE, sAsg, setP, setAll, sCut, fAddS, fAddL, fAddT, fEqT0, dStep, dIndex, sPar3, dGet2, dInK, dGetK, fNeDA, fDictD, fDictP, dStar, fIsNotBl, dDc, wipeG]
      simp
      obtain ⟨x, rfl, x0, x1⟩ := rng_mem hd
      refine ⟨_, slice_txt hbase (by decide) _ _, x, rfl, .inl ⟨by decide, by decide⟩, ix_txt abc (by decide) (Int.emod_nonneg _ (by decide)) (by rw [abcl]; exact Int.emod_lt_of_pos _ (by decide)) fun c hc => ?_⟩
      have g1 := (hbase.cut none (some k)).app hc
      have g2 := hbase.cut (some k) none
      have l1 := (hbase.cut none (some k)).len
      have l2 := hc.len
      have l3 := g1.len
      have l4 := g2.len
      exact ⟨_, rfl, _, rfl, by omega, _, slice_txt hbase (by decide) _ _, _, rfl, by omega, h _ ⟨_, rfl, (g1.app g2).mono (by decide)⟩⟩
end
end K11
namespace K11
open PySem L2 DL
section
variable {P : Program} {w : World} {K : PySem.W.Frag} {mg : Str → Option Value} {base : Heap}
def pre__law_odd : List D → Prop := fun ds => ds = []
def post__law_odd : List D → D → Prop := fun _ d => SFit 10 18100 d
theorem ok__law_odd (T : Tx K mg)  : FnG P w K mg base CX0 (1 + 1) T.f__law_odd T.d__law_odd ["_law_bag_here"] (spB K (pre__law_odd) (post__law_odd)) := by
  have sc := sc__law_odd
  have G__law_take := ok__law_take (P := P) (w := w) (base := base) T
  refine fnB T.F__law_odd sc (fun ds e => by rw [e]; rfl) ?_
  intro cdv A fr s H E S0 b l hst hr
  refine ⟨_, (ss_cons (sd_set (i := 1) sc.nd rfl (by first | exact Or.inl rfl | exact Or.inr rfl) ed_str)
      (ss_cons (sd_for (p := (.nm 2)) PassesOwn.never rfl (id_range rfl T.z_range (ad_cons ed_int ad_nil)) (pg_name (i := 2) sc.nd rfl (by first | exact Or.inl rfl | exact Or.inr rfl)) (ss_one (sd_set (i := 1) sc.nd rfl (by first | exact Or.inl rfl | exact Or.inr rfl) (ed_lst (ad_cons (ed_v 1) ad_nil)))))
      (ss_cons (sd_set (i := 3) sc.nd rfl (by first | exact Or.inl rfl | exact Or.inr rfl) (ed_lst (ad_cons ed_non (ad_cons ed_bl (ad_cons ed_bl (ad_cons ed_int (ad_cons ed_int (ad_cons (ed_neg ed_int) (ad_cons ed_int (ad_cons ed_int (ad_cons (ed_op op_pow o2_intC ed_int ed_int) (ad_cons ed_str (ad_cons ed_str (ad_cons ed_str (ad_cons ed_str (ad_cons ed_str (ad_cons ed_str (ad_cons (ed_op op_mulS o2_mulS ed_str ed_int) ad_nil))))))))))))))))))
      (ss_cons (sd_set (i := 3) sc.nd rfl (by first | exact Or.inl rfl | exact Or.inr rfl) (ed_op op_cat o2_addL (ed_v 3) (ed_lst (ad_cons (ed_tup ad_nil) (ad_cons (ed_lst ad_nil) (ad_cons (ed_ofO oe_dict0K) (ad_cons (ed_tup (ad_cons ed_str ad_nil)) (ad_cons (ed_tup (ad_cons ed_str (ad_cons ed_str ad_nil))) (ad_cons (ed_lst (ad_cons (ed_tup (ad_cons ed_str ad_nil)) ad_nil)) (ad_cons (ed_ofO (oe_dict1 ed_str ed_str)) (ad_cons (ed_v 1) (ad_cons (ed_op op_rep o2_rep (ed_lst (ad_cons ed_int ad_nil)) ed_int) ad_nil))))))))))))
      (ss_cons (sd_set (i := 3) sc.nd rfl (by first | exact Or.inl rfl | exact Or.inr rfl) (ed_op op_cat o2_addL (ed_v 3) (ed_lst (ad_cons (ed_tup (ad_cons ed_str (ad_cons ed_str (ad_cons (ed_tup ad_nil) ad_nil)))) (ad_cons (ed_tup (ad_cons ed_str (ad_cons ed_str (ad_cons (ed_tup (ad_cons ed_str (ad_cons ed_non ad_nil))) ad_nil)))) ad_nil)))))
      (ss_one (sd_ret (ed_ix rfl (ed_v 3) (ed_callB (i := 0) G__law_take hst (hr.mono (by first | decide | omega)) rfl T.m__law_take T.F__law_take.kp T.b__law_take (pa_bag 0  (ha := (ad_cons ed_int ad_nil)))) (fun _ _ => rfl))))))))), ?_⟩

  rintro ds rfl
  simp only [sSeq, sIf, sRet, sSet, sPar, sNext, sExpr, sFor, dV, dC, dNil, dCons, dTup, dLst, d2, dTest, fI, fIc, fEq, fNe, fIn, fIs, fIsNot, dAnd, dOr, dNot, dIf, dCall, dCallB, dLc, iL, iT, iR, iR2, dYes, fIx, dB, fLen, fSum, fAll, fAny, fInt, fTuple, fList, dIsi, fInT, fNinT, fRepr, tA, tO, tN, dU, fAbs, fAdd, oN, oS, dSl, fInS, fNinS, fMulS, fEqS, fNeS, gD, gB, sSetO, sParO, sFrz, sApp, sIns, sPut, dIxO, dSlO, dView, tView, viewB, D.plain, fNin, dChain, fRep, fOneT, fIsBl, dJoin, dSplit, dDict1, iS, fCat, fEqE, sAsg, setP, setAll, sCut, fAddS, fAddL, fAddT, fEqT0, dStep, dIndex, sPar3, dGet2, dInK, dGetK, fNeDA, fDictD, fDictP, dStar, fIsNotBl, dDc]
  simp
  refine loopK_at (fun i Γ => ∃ (d : D) (y : Option B), SFit i (i + 2) d ∧ Γ = [some .bag, some (.dat d), y, none]) 0 ?turn ⟨_, _, SFit.str (by decide +kernel) (by decide +kernel), rfl⟩ ?go
  case turn =>
    rintro i e he Γ O' ⟨d, y, hd, rfl⟩ kn kc _ _
    refine ⟨_, rfl, ?_⟩
    simp only [sSeq, sIf, sRet, sSet, sPar, sNext, sExpr, sFor, dV, dC, dNil, dCons, dTup, dLst, d2, dTest, fI, fIc, fEq, fNe, fIn, fIs, fIsNot, dAnd, dOr, dNot, dIf, dCall, dCallB, dLc, iL, iT, iR, iR2, dYes, fIx, dB, fLen, fSum, fAll, fAny, fInt, fTuple, fList, dIsi, fInT, fNinT, fRepr, tA, tO, tN, dU, fAbs, fAdd, oN, oS, dSl, fInS, fNinS, fMulS, fEqS, fNeS, gD, gB, sSetO, sParO, sFrz, sApp, sIns, sPut, dIxO, dSlO, dView, tView, viewB, D.plain, fNin, dChain, fRep, fOneT, fIsBl, dJoin, dSplit, dDict1, iS, fCat, fEqE, sAsg, setP, setAll, sCut, fAddS, fAddL, fAddT, fEqT0, dStep, dIndex, sPar3, dGet2, dInK, dGetK, fNeDA, fDictD, fDictP, dStar, fIsNotBl, dDc]
    simp
    exact kn _ ⟨_, _, (SFit.lst.mpr (SFitA.cons hd (SFitA.nil (b := 0)))).mono (by omega) (by omega), rfl⟩
  case go =>
    rintro Γ ⟨d, y, hd, rfl⟩
    have hd9 : SFit 10 18100 d := by
      rw [rng_len] at hd
      exact hd.mono (by decide) (by decide)
    simp only [sSeq, sIf, sRet, sSet, sPar, sNext, sExpr, sFor, dV, dC, dNil, dCons, dTup, dLst, d2, dTest, fI, fIc, fEq, fNe, fIn, fIs, fIsNot, dAnd, dOr, dNot, dIf, dCall, dCallB, dLc, iL, iT, iR, iR2, dYes, fIx, dB, fLen, fSum, fAll, fAny, fInt, fTuple, fList, dIsi, fInT, fNinT, fRepr, tA, tO, tN, dU, fAbs, fAdd, oN, oS, dSl, fInS, fNinS, fMulS, fEqS, fNeS, gD, gB, sSetO, sParO, sFrz, sApp, sIns, sPut, dIxO, dSlO, dView, tView, viewB, D.plain, fNin, dChain, fRep, fOneT, fIsBl, dJoin, dSplit, dDict1, iS, fCat, fEqE, sAsg, setP, setAll, sCut, fAddS, fAddL, fAddT, fEqT0, dStep, dIndex, sPar3, dGet2, dInK, dGetK, fNeDA, fDictD, fDictP, dStar, fIsNotBl, dDc]
    simp [-List.reduceReplicate]
    refine ⟨⟨by decide, by decide, by decide +kernel⟩, rfl, .inr (Str.ofString "a"), rfl, draw (by decide) (by decide) fun i i0 i1 => ⟨i, rfl, pick i0 (by simpa [-List.reduceReplicate] using i1) fun x hx => ?_⟩⟩
    have ones : SFit 10 18100 (.lst (List.replicate 9000 (D.int 0))) :=
      SFit.lst.mpr ((SFitA.all (a := 9) (b := 0) fun d hd => by
        rw [List.eq_of_mem_replicate hd]
        exact SFit.int (by decide)).mono (Nat.le_refl _) (by rw [List.length_replicate]; decide))
    have ones2 : SFit 10 18100 (.lst (List.replicate 9000 [D.int 0]).flatten) := by
      rw [flat_one]
      exact ones
    show SFit 10 18100 x
    simp only [List.mem_cons, List.not_mem_nil, or_false] at hx
    rcases hx with rfl | rfl | rfl | rfl | rfl | rfl | rfl | rfl | rfl | rfl | rfl | rfl | rfl | rfl | rfl | rfl | rfl | rfl | rfl | rfl | rfl | rfl | rfl | rfl | rfl | rfl | rfl <;>
      first
        | with_reducible exact hd9
        | with_reducible exact ones
        | with_reducible exact ones2
        | exact SFit.dec (by decide +kernel)
def pre__law_nested : List D → Prop := fun ds => ds = []
def post__law_nested : List D → D → Prop := fun _ d => SFit 12 200 d
theorem ok__law_nested (T : Tx K mg)  : FnG P w K mg base CX0 (1 + 1) T.f__law_nested T.d__law_nested ["_law_bag_here"] (spB K (pre__law_nested) (post__law_nested)) := by
  have sc := sc__law_nested
  have G__law_take := ok__law_take (P := P) (w := w) (base := base) T
  refine fnB T.F__law_nested sc (fun ds e => by rw [e]; rfl) ?_
  intro cdv A fr s H E S0 b l hst hr
  refine ⟨_, (ss_cons (sd_set (i := 1) sc.nd rfl (by first | exact Or.inl rfl | exact Or.inr rfl) ed_str)
      (ss_cons (sd_for (p := (.nm 2)) PassesOwn.never rfl (id_range rfl T.z_range (ad_cons (ed_callB (i := 0) G__law_take hst (hr.mono (by first | decide | omega)) rfl T.m__law_take T.F__law_take.kp T.b__law_take (pa_bag 0  (ha := (ad_cons ed_int ad_nil)))) ad_nil)) (pg_name (i := 2) sc.nd rfl (by first | exact Or.inl rfl | exact Or.inr rfl)) (ss_one (sd_set (i := 1) sc.nd rfl (by first | exact Or.inl rfl | exact Or.inr rfl) (ed_tup (ad_cons ed_str (ad_cons ed_str (ad_cons (ed_ix rfl (ed_lst (ad_cons (ed_tup (ad_cons (ed_v 1) ad_nil)) (ad_cons (ed_tup (ad_cons (ed_v 1) (ad_cons ed_non (ad_cons ed_str ad_nil)))) (ad_cons (ed_tup (ad_cons ed_str (ad_cons (ed_v 1) ad_nil))) ad_nil)))) (ed_callB (i := 0) G__law_take hst (hr.mono (by first | decide | omega)) rfl T.m__law_take T.F__law_take.kp T.b__law_take (pa_bag 0  (ha := (ad_cons ed_int ad_nil)))) (fun _ _ => rfl)) ad_nil)))))))
      (ss_one (sd_ret (ed_v 1))))), ?_⟩

  rintro ds rfl
  simp only [sSeq, sIf, sRet, sSet, sPar, sNext, sExpr, sFor, dV, dC, dNil, dCons, dTup, dLst, d2, dTest, fI, fIc, fEq, fNe, fIn, fIs, fIsNot, dAnd, dOr, dNot, dIf, dCall, dCallB, dLc, iL, iT, iR, iR2, dYes, fIx, dB, fLen, fSum, fAll, fAny, fInt, fTuple, fList, dIsi, fInT, fNinT, fRepr, tA, tO, tN, dU, fAbs, fAdd, oN, oS, dSl, fInS, fNinS, fMulS, fEqS, fNeS, gD, gB, sSetO, sParO, sFrz, sApp, sIns, sPut, dIxO, dSlO, dView, tView, viewB, D.plain, fNin, dChain, fRep, fOneT, fIsBl, dJoin, dSplit, dDict1, iS, fCat, fEqE, sAsg, setP, setAll, sCut, fAddS, fAddL, fAddT, fEqT0, dStep, dIndex, sPar3, dGet2, dInK, dGetK, fNeDA, fDictD, fDictP, dStar, fIsNotBl, dDc]
  simp
  refine draw (by decide) (by decide) fun j j0 j1 => ⟨j, rfl, by omega, by omega, ?_⟩
  refine loopK_at (fun i Γ => ∃ (d : D) (y : Option B), SFit (2 * i) (20 * i + 5) d ∧ Γ = [some .bag, some (.dat d), y]) 0 ?turn ⟨_, _, SFit.str (by decide +kernel) (by decide +kernel), rfl⟩ ?done
  case turn =>
    rintro i d hd Γ O' ⟨e, y, he, rfl⟩ kn kc _ _
    refine ⟨_, rfl, ?_⟩
    simp only [sSeq, sIf, sRet, sSet, sPar, sNext, sExpr, sFor, dV, dC, dNil, dCons, dTup, dLst, d2, dTest, fI, fIc, fEq, fNe, fIn, fIs, fIsNot, dAnd, dOr, dNot, dIf, dCall, dCallB, dLc, iL, iT, iR, iR2, dYes, fIx, dB, fLen, fSum, fAll, fAny, fInt, fTuple, fList, dIsi, fInT, fNinT, fRepr, tA, tO, tN, dU, fAbs, fAdd, oN, oS, dSl, fInS, fNinS, fMulS, fEqS, fNeS, gD, gB, sSetO, sParO, sFrz, sApp, sIns, sPut, dIxO, dSlO, dView, tView, viewB, D.plain, fNin, dChain, fRep, fOneT, fIsBl, dJoin, dSplit, dDict1, iS, fCat, fEqE, sAsg, setP, setAll, sCut, fAddS, fAddL, fAddT, fEqT0, dStep, dIndex, sPar3, dGet2, dInK, dGetK, fNeDA, fDictD, fDictP, dStar, fIsNotBl, dDc]
    simp
    rw [Nat.zero_add] at he
    refine draw (by decide) (by decide) fun z z0 z1 => ⟨z, rfl, pick z0 (by simpa using z1) fun x hx => kn _ ⟨_, _, ?_, rfl⟩⟩
    have ha : ∀ {a : Nat}, SFit a 1 (.str (Str.ofString "a")) := SFit.str (by decide +kernel) (by decide +kernel)
    have hb : ∀ {a : Nat}, SFit a 1 (.str (Str.ofString "b")) := SFit.str (by decide +kernel) (by decide +kernel)
    have hm : ∀ {a : Nat}, SFit a 4 (.str (Str.ofString "made")) := SFit.str (by decide +kernel) (by decide +kernel)
    have hz : ∀ {a : Nat}, SFit a 3 (.str (Str.ofString "zip")) := SFit.str (by decide +kernel) (by decide +kernel)
    have fx : SFit (2 * i + 1) (20 * i + 9) x := by
      simp only [List.mem_cons, List.not_mem_nil, or_false] at hx
      rcases hx with rfl | rfl | rfl
      · exact (SFit.tup.mpr (SFitA.cons he (SFitA.nil (b := 0)))).mono (Nat.le_refl _) (by omega)
      · exact (SFit.tup.mpr (SFitA.cons he (SFitA.cons (SFit.non (b := 0)) (SFitA.cons hb (SFitA.nil (b := 0)))))).mono (Nat.le_refl _) (by omega)
      · exact (SFit.tup.mpr (SFitA.cons ha (SFitA.cons he (SFitA.nil (b := 0))))).mono (Nat.le_refl _) (by omega)
    exact (SFit.tup.mpr (SFitA.cons hm (SFitA.cons hz (SFitA.cons fx (SFitA.nil (b := 0)))))).mono (by omega) (by omega)
  case done =>
    rintro Γ ⟨d, y, hd, rfl⟩
    rw [rng_len] at hd
    simp only [sSeq, sIf, sRet, sSet, sPar, sNext, sExpr, sFor, dV, dC, dNil, dCons, dTup, dLst, d2, dTest, fI, fIc, fEq, fNe, fIn, fIs, fIsNot, dAnd, dOr, dNot, dIf, dCall, dCallB, dLc, iL, iT, iR, iR2, dYes, fIx, dB, fLen, fSum, fAll, fAny, fInt, fTuple, fList, dIsi, fInT, fNinT, fRepr, tA, tO, tN, dU, fAbs, fAdd, oN, oS, dSl, fInS, fNinS, fMulS, fEqS, fNeS, gD, gB, sSetO, sParO, sFrz, sApp, sIns, sPut, dIxO, dSlO, dView, tView, viewB, D.plain, fNin, dChain, fRep, fOneT, fIsBl, dJoin, dSplit, dDict1, iS, fCat, fEqE, sAsg, setP, setAll, sCut, fAddS, fAddL, fAddT, fEqT0, dStep, dIndex, sPar3, dGet2, dInK, dGetK, fNeDA, fDictD, fDictP, dStar, fIsNotBl, dDc]
    simp
    exact hd.mono (by omega) (by omega)
end
end K11
namespace K11
open PySem L2 DL
section
variable {P : Program} {w : World} {K : PySem.W.Frag} {mg : Str → Option Value} {base : Heap}
def pre__law_spoiled (n : Nat) : List D → Prop := fun ds => ∃ d, ds = [d] ∧ 0 < n ∧ SFit (n - 1) 60000 d
def post__law_spoiled (n : Nat) : List D → D → Prop := fun ds r => ∃ d, ds = [d] ∧ Sp d r
theorem ok__law_spoiled_step (T : Tx K mg) (n : Nat) (ih : FnG P w K mg base CX0 (n + 2) T.f__law_spoiled T.d__law_spoiled ["_law_bag_here", "_law_thing_here"] (spB K (pre__law_spoiled n) (post__law_spoiled n)))  : FnG P w K mg base CX0 ((n + 1) + 2) T.f__law_spoiled T.d__law_spoiled ["_law_bag_here", "_law_thing_here"] (spB K (pre__law_spoiled (n + 1)) (post__law_spoiled (n + 1))) := by
  have sc := sc__law_spoiled
  have G__law_odd := ok__law_odd (P := P) (w := w) (base := base) T
  have G__law_take := ok__law_take (P := P) (w := w) (base := base) T
  refine fnB T.F__law_spoiled sc (fun ds ⟨d, e, _⟩ => by rw [e]; rfl) ?_
  intro cdv A fr s H E S0 b l hst hr
  refine ⟨_, (ss_cons (sd_set (i := 2) sc.nd rfl (by first | exact Or.inl rfl | exact Or.inr rfl) (ed_callB (i := 0) G__law_take hst (hr.mono (by first | decide | omega)) rfl T.m__law_take T.F__law_take.kp T.b__law_take (pa_bag 0  (ha := (ad_cons ed_int ad_nil)))))
      (ss_cons (sd_if (td_w (tw_and (td_bl (ed_isi (T := "str") rfl (ed_v 1) rfl T.z_isinstance rfl T.z_str (by decide +kernel) (by decide)) (fun _ => rfl)) (tw_and1 (td_cmp op_gt o2_blI (ed_callB (i := 0) G__law_take hst (hr.mono (by first | decide | omega)) rfl T.m__law_take T.F__law_take.kp T.b__law_take (pa_bag 0  (ha := (ad_cons ed_int ad_nil)))) ed_int (nomark _))))) (ss_cons (sd_par (i := 3) (j := 4) rfl sc.nd rfl rfl (by decide) rfl rfl (ad_cons (ed_callB (i := 0) G__law_take hst (hr.mono (by first | decide | omega)) rfl T.m__law_take T.F__law_take.kp T.b__law_take (pa_bag 0  (ha := (ad_cons (ed_op op_add o2_int (ed_blt call_len cc_len (by rfl) T.z_len (by decide +kernel) (ad_cons (ed_v 1) ad_nil)) ed_int) ad_nil)))) (ad_cons (ed_ix rfl (ed_lst (ad_cons ed_str (ad_cons ed_str (ad_cons ed_str (ad_cons ed_str (ad_cons ed_str (ad_cons ed_str (ad_cons ed_str (ad_cons (ed_op op_mulS o2_mulS ed_str ed_int) ad_nil))))))))) (ed_callB (i := 0) G__law_take hst (hr.mono (by first | decide | omega)) rfl T.m__law_take T.F__law_take.kp T.b__law_take (pa_bag 0  (ha := (ad_cons ed_int ad_nil)))) (fun _ _ => rfl)) ad_nil)) rfl)
      (ss_one (sd_ret (ed_op op_add_str o2_addS (ed_op op_add_str o2_addS (ed_slice rfl (ed_v 1) og_none (og_some (ed_v 3))) (ed_v 4)) (ed_slice rfl (ed_v 1) (og_some (ed_op op_add o2_int (ed_v 3) (ed_op op_mod o2_intC (ed_v 2) ed_int))) og_none))))) ss_nil)
      (ss_cons (sd_if (td_w (tw_or (td_not (td_bl (ed_isi2 (T := "tuple") (U := "list") rfl (ed_v 1) rfl T.z_isinstance rfl T.z_tuple (by decide +kernel) (by decide) rfl T.z_list (by decide +kernel) (by decide)) (fun _ => rfl))) (tw_or (td_cmp (op_eqD (hu64 hr)) o2_eq (ed_blt call_len cc_len (by rfl) T.z_len (by decide +kernel) (ad_cons (ed_v 1) ad_nil)) ed_int (nomark _)) (tw_or1 (td_cmp (op_eqD (hu64 hr)) o2_eq (ed_v 2) ed_int (nomark _)))))) (ss_one (sd_ret (ed_callB (i := 0) G__law_odd hst (hr.mono (by first | decide | omega)) rfl T.m__law_odd T.F__law_odd.kp T.b__law_odd (pa_bag 0  (ha := ad_nil))))) ss_nil)
      (ss_cons (sd_parO (i := 3) (j := 5) rfl sc.nd rfl rfl (by decide) rfl rfl (ed_callB (i := 0) G__law_take hst (hr.mono (by first | decide | omega)) rfl T.m__law_take T.F__law_take.kp T.b__law_take (pa_bag 0  (ha := (ad_cons (ed_blt call_len cc_len (by rfl) T.z_len (by decide +kernel) (ad_cons (ed_v 1) ad_nil)) ad_nil)))) (oe_list rfl (ed_v 1) rfl T.z_list) rfl)
      (ss_cut (sd_if (td_cmp (op_eqD (hu64 hr)) o2_eq (ed_v 2) ed_int (nomark _)) (ss_one (sd_setO (i := 5) sc.nd rfl (by first | exact Or.inl rfl | exact Or.inr rfl) (oe_cat (ed_slO 5 rfl (hl := og_none) (hh := og_some (ed_v 3))) (ed_slO 5 rfl (hl := og_some (ed_op op_add o2_int (ed_v 3) ed_int)) (hh := og_none))))) ss_nil)
      (ss_cut (sd_if (td_cmp (op_eqD (hu64 hr)) o2_eq (ed_v 2) ed_int (nomark _)) (ss_one (sd_ins 5 rfl (he := (ed_v 3)) (he2 := (ed_ixO 5 rfl (hb := (ed_v 3)) (hs := fun _ _ => rfl))))) ss_nil)
      (ss_cut (sd_if (td_cmp (op_inT (hu65 hr)) o2_inT (ed_v 2) (ed_tup (ad_cons ed_int (ad_cons ed_int ad_nil))) rfl) (ss_one (sd_put 5 rfl (he := (ed_v 3)) (he2 := (ed_callB (i := 0) ih hst (hr.mono (by first | decide | omega)) rfl T.m__law_spoiled T.F__law_spoiled.kp T.b__law_spoiled (pa_bag 0  (ha := (ad_cons (ed_ixO 5 rfl (hb := (ed_v 3)) (hs := fun _ _ => rfl)) ad_nil))))))) ss_nil)
      (ss_frz 5 (ss_cons (sd_if (td_cmp (op_eqD (hu64 hr)) o2_eq (ed_v 2) ed_int (nomark _)) (ss_one (sd_ret (ed_ix rfl (ed_lst (ad_cons (ed_bty call_tuple_of cc_tuple (by rfl) T.z_tuple (by decide +kernel) (ad_cons (ed_v 5) ad_nil)) (ad_cons (ed_v 5) ad_nil))) (ed_bty call_int1 cc_int (by rfl) T.z_int (by decide +kernel) (ad_cons (ed_isi (T := "tuple") rfl (ed_v 1) rfl T.z_isinstance rfl T.z_tuple (by decide +kernel) (by decide)) ad_nil)) (fun _ _ => rfl)))) ss_nil)
      (ss_one (sd_ret (ed_ix rfl (ed_lst (ad_cons (ed_v 5) (ad_cons (ed_bty call_tuple_of cc_tuple (by rfl) T.z_tuple (by decide +kernel) (ad_cons (ed_v 5) ad_nil)) ad_nil))) (ed_bty call_int1 cc_int (by rfl) T.z_int (by decide +kernel) (ad_cons (ed_isi (T := "tuple") rfl (ed_v 1) rfl T.z_isinstance rfl T.z_tuple (by decide +kernel) (by decide)) ad_nil)) (fun _ _ => rfl))))))))))))), ?_⟩

  rintro ds ⟨d, rfl, n0, hd⟩
  have hd2 : SFit n 60000 d := hd
  have fin : ∀ r, Sp d r → post__law_spoiled (n + 1) [d] r := fun r h => ⟨d, rfl, h⟩
  have odd : pre__law_odd [] ∧ ∀ r, post__law_odd [] r → post__law_spoiled (n + 1) [d] r := ⟨rfl, fun r hr => fin r fun a b _ => (show SFit 10 18100 r from hr).mono (by omega) (by omega)⟩
  simp only [sSeq, sIf, sRet, sSet, sPar, sNext, sExpr, sFor, dV, dC, dNil, dCons, dTup, dLst, d2, dTest, fI, fIc, fEq, fNe, fIn, fIs, fIsNot, dAnd, dOr, dNot, dIf, dCall, dCallB, dLc, iL, iT, iR, iR2, dYes, fIx, dB, fLen, fSum, fAll, fAny, fInt, fTuple, fList, dIsi, fInT, fNinT, fRepr, tA, tO, tN, dU, fAbs, fAdd, oN, oS, dSl, fInS, fNinS, fMulS, fEqS, fNeS, gD, gB, sSetO, sParO, sFrz, sApp, sIns, sPut, dIxO, dSlO, dView, tView, viewB, D.plain, fNin, dChain, fRep, fOneT, fIsBl, dJoin, dSplit, dDict1, iS, fCat, fEqE, sAsg, setP, setAll, sCut, fAddS, fAddL, fAddT, fEqT0, dStep, dIndex, sPar3, dGet2, dInK, dGetK, fNeDA, fDictD, fDictP, dStar, fIsNotBl, dDc]
  simp
  refine draw (by decide) (by decide) fun w w0 w1 => ?_
  by_cases hstr : isT "str" d = true
  · obtain ⟨s, rfl⟩ : ∃ s, d = .str s := by
      cases d with
      | str s => exact ⟨s, rfl⟩
      | _ => cases hstr
    rw [if_pos hstr]
    have hs : TxB 60000 s := by
      have h1 := hd2.1
      simp only [D.good] at h1
      have h2 := hd2.2.2.2.2
      unfold D.py at h2
      simp only [PyData.bulk] at h2
      exact TxB.of h1 h2
    have hs2 : ∀ a b, SFit a b (.str s) → TxB b s := fun a b h => by
      have h1 := h.1
      simp only [D.good] at h1
      have h2 := h.2.2.2.2
      unfold D.py at h2
      simp only [PyData.bulk] at h2
      exact TxB.of h1 h2
    have hl := hs.len
    refine draw (by decide) (by decide) fun i i0 i1 => ⟨i, rfl, ?_⟩
    by_cases hi : 0 < i
    · rw [if_pos hi]
      refine ⟨s.length, if_pos (by have := sizeL; omega), draw (by omega) (by omega) fun k k0 k1 => ⟨rfl, draw (by decide) (by decide) fun z z0 z1 => ⟨z, rfl, pick z0 (by simpa using z1) fun x hx => ?_⟩⟩⟩
      obtain ⟨y, rfl, hy⟩ : ∃ y, x = .str y ∧ TxB 8 y := by
        simp only [List.mem_cons, List.not_mem_nil, or_false] at hx
        rcases hx with rfl | rfl | rfl | rfl | rfl | rfl | rfl | rfl <;> exact ⟨_, rfl, TxB.of (by decide +kernel) (by decide +kernel)⟩
      have g1 := (hs.cut none (some k)).len
      have g2 := hy.len
      have g3 := ((hs.cut none (some k)).app hy).len
      have g4 := (hs.cut (some (k + w % 2)) none).len
      refine ⟨_, _, ⟨rfl, rfl⟩, k, rfl, _, slice_txt hs (by decide) _ _, _, rfl, _, rfl, by omega, ?_⟩
      refine ⟨w, rfl, k, rfl, _, slice_txt hs (by decide) _ _, _, rfl, by omega, fin _ fun a b h => ?_⟩
      have hb := hs2 a b h
      exact (TxB.fit (a := a) (((hb.cut none (some k)).app hy).app (hb.cut (some (k + w % 2)) none))).s.mono (by omega) (by omega)
    · rw [if_neg hi, if_neg (by simp [isT])]
      exact odd
  · rw [if_neg hstr]
    by_cases hseq : isT "tuple" d = true ∨ isT "list" d = true
    · rw [if_pos hseq]
      obtain ⟨xs, hx, hlen⟩ : ∃ xs, (d = .lst xs ∨ d = .tup xs) ∧ lenD d = some xs.length := by
        cases d with
        | lst xs => exact ⟨xs, .inl rfl, rfl⟩
        | tup xs => exact ⟨xs, .inr rfl, rfl⟩
        | emp => exact absurd hd2.1 (by simp [D.good])
        | _ => rcases hseq with z | z <;> cases z
      have hxs : ∀ a b, SFit a b d → ∃ c, a = c + 1 ∧ SFitA c b xs := fun a b h => by
        cases a with
        | zero =>
          have := h.2.2.2.1
          rcases hx with rfl | rfl <;> simp [D.py, PyData.depth] at this
        | succ a =>
          rcases hx with rfl | rfl
          · exact ⟨a, rfl, SFit.lst.mp h⟩
          · exact ⟨a, rfl, SFit.tup.mp h⟩
      have hl : xs.length ≤ 60000 := by
        obtain ⟨c, _, h⟩ := hxs _ _ hd2
        have h1 := h.2.2.2.2
        have : xs.length ≤ PyData.bulkAll (pyA xs) := bulk_len xs
        omega
      refine ⟨xs.length, hlen, Cmp.int, Cmp.int, ?_⟩
      rw [eqv_int]
      by_cases h0 : xs.length = 0
      · rw [if_pos (by simp [h0])]
        exact odd
      · rw [if_neg (fun z => h0 (by have := beq_iff_eq.mp z; omega))]
        refine ⟨Cmp.int, Cmp.int, ?_⟩
        rw [eqv_int]
        by_cases hw0 : w = 0
        · rw [if_pos (by simp [hw0])]
          exact odd
        · rw [if_neg (by simp [hw0])]
          refine ⟨xs.length, hlen, draw (by omega) (by omega) fun k k0 k1 => ⟨xs, hx, ?_⟩⟩
          obtain ⟨x, j, ex, mx, ej, exj⟩ := at_ix k0 k1
          let J : List D → Prop := fun ys => ∀ c b, SFitA c b xs → SFitA (c + 10) (2 * b + 18200) ys
          have Jx : J xs := fun c b h => h.mono (by omega) (by omega)
          let st : List D → G := fun ys => [some .bag, some (.dat d), some (.dat (.int w)), some (.dat (.int k)), none, some (.own (.lst ys))]
          refine ⟨fun Γ => ∃ ys, Γ = st ys ∧ ((ys = xs ∧ w ≠ 1) ∨ (w = 1 ∧ J ys)), ⟨Cmp.int, Cmp.int, ?_⟩, ?_⟩
          · rw [eqv_int]
            by_cases hw : w = 1
            · rw [if_pos (by simp [hw])]
              refine ⟨k, rfl, k, rfl, ?_, _, rfl, .inr ⟨hw, fun c b h => ?_⟩⟩
              · have := sizeL
                rw [cut_hi k0, cut_lo (by omega), List.length_take, List.length_drop]
                omega
              · rw [cut_hi k0, cut_lo (by omega)]
                exact ((h.take _).append (h.drop _)).mono (by omega) (by omega)
            · rw [if_neg (by simp [hw])]
              exact ⟨_, rfl, .inl ⟨rfl, hw⟩⟩
          rintro Γ' ⟨ys, rfl, hy⟩
          refine ⟨fun Γ => ∃ ys, Γ = st ys ∧ ((ys = xs ∧ w ≠ 1 ∧ w ≠ 2) ∨ ((w = 1 ∨ w = 2) ∧ J ys)), ⟨.int w, rfl, Cmp.int, Cmp.int, ?_⟩, ?_⟩
          · rw [eqv_int]
            by_cases hw : w = 2
            · rw [if_pos (by simp [hw])]
              obtain ⟨rfl, _⟩ : ys = xs ∧ w ≠ 1 := hy.resolve_right fun z => by omega
              refine ⟨_, rfl, by omega, .int k, rfl, _, rfl, .int k, rfl, k, rfl, x, ex, k, rfl, k0, by omega, _, rfl, .inr ⟨.inr hw, fun c b h => ?_⟩⟩
              obtain ⟨e, he, hx⟩ := h.mem mx
              obtain ⟨p, q, hpq, h1, h2⟩ := h.split k.toNat
              exact (h1.append (SFitA.cons hx h2)).mono (by omega) (by omega)
            · rw [if_neg (by simp [hw])]
              exact ⟨_, rfl, hy.imp (fun z => ⟨z.1, z.2, hw⟩) fun z => ⟨.inl z.1, z.2⟩⟩
          rintro Γ' ⟨ys, rfl, hy⟩
          refine ⟨fun Γ => ∃ ys, Γ = st ys ∧ J ys, ⟨.int w, rfl, Cmp.int, cmp2 (Fit.int (by decide)) (Fit.int (by decide)), ?_⟩, ?_⟩
          · rw [eqv_int, eqv_int]
            by_cases hw : w = 3 ∨ w = 4
            · rw [if_pos (by simp; omega)]
              obtain ⟨rfl, _⟩ : ys = xs ∧ w ≠ 1 ∧ w ≠ 2 := hy.resolve_right fun z => by omega
              obtain ⟨c, hc, hA⟩ := hxs _ _ hd2
              obtain ⟨e, he, hx⟩ := hA.mem mx
              refine ⟨rfl, _, rfl, .int k, rfl, k, rfl, x, ex, ⟨x, rfl, by omega, hx.mono (by omega) (by omega)⟩, ?_⟩
              rintro r ⟨x', e', hsp⟩
              cases e'
              refine ⟨_, rfl, .int k, rfl, k, rfl, j, ej, _, rfl, fun c b h => ?_⟩
              obtain ⟨e2, he2, hx2, sw⟩ := h.swap j exj
              exact (sw _ _ r (by omega) (hsp _ _ hx2)).mono (Nat.le_refl _) (by omega)
            · rw [if_neg (by simp; omega)]
              refine ⟨_, rfl, ?_⟩
              rcases hy with ⟨rfl, _⟩ | ⟨_, hJ⟩
              · exact Jx
              · exact hJ
          rintro Γ' ⟨ys, rfl, hJ⟩
          have ends : ∀ r, r = .lst ys ∨ r = .tup ys → post__law_spoiled (n + 1) [d] r := fun r hr => fin r fun a b h => by
            obtain ⟨c, rfl, hA⟩ := hxs a b h
            rcases hr with rfl | rfl
            · exact (SFit.lst.mpr (hJ c b hA)).mono (by omega) (Nat.le_refl _)
            · exact (SFit.tup.mpr (hJ c b hA)).mono (by omega) (Nat.le_refl _)
          refine ⟨.lst ys, rfl, .int w, rfl, Cmp.int, Cmp.int, ?_⟩
          rw [eqv_int]
          by_cases hw : w = 5
          · rw [if_pos (by simp [hw])]
            refine ⟨.lst ys, rfl, ys, .inl rfl, .lst ys, rfl, d, rfl, _, rfl, pick (by split <;> simp) (by split <;> simp) fun r hr => ends r ?_⟩
            simp only [List.mem_cons, List.not_mem_nil, or_false] at hr
            exact hr.symm
          · rw [if_neg (by simp [hw])]
            refine ⟨.lst ys, rfl, .lst ys, rfl, ys, .inl rfl, d, rfl, _, rfl, pick (by split <;> simp) (by split <;> simp) fun r hr => ends r ?_⟩
            simpa using hr
    · rw [if_neg hseq]
      exact odd
theorem ok__law_spoiled (T : Tx K mg) : ∀ n : Nat, FnG P w K mg base CX0 (n + 2) T.f__law_spoiled T.d__law_spoiled ["_law_bag_here", "_law_thing_here"] (spB K (pre__law_spoiled n) (post__law_spoiled n))
  | 0 => FnG.no fun vs H Q E h => spB_no (fun ds ⟨_, _, z, _⟩ => by omega) h
  | n + 1 => ok__law_spoiled_step T n (ok__law_spoiled T n)
end
end K11
namespace K11
open PySem L2 DL
section
variable {P : Program} {w : World} {K : PySem.W.Frag} {mg : Str → Option Value} {base : Heap}
def pre__law_thing : List D → Prop := fun ds => ∃ ns, ds = [.lst ns] ∧ ns.length = 4 ∧ ∀ n ∈ ns, IsNm n
def post__law_thing : List D → D → Prop := fun _ d => SFit 14 20000 d
theorem ok__law_thing (T : Tx K mg)  : FnG P w K mg base CX0 (10 + 1) T.f__law_thing T.d__law_thing ["_law_bag_here", "_law_names_here"] (spB K (pre__law_thing) (post__law_thing)) := by
  have sc := sc__law_thing
  have G__law_content := ok__law_content (P := P) (w := w) (base := base) T 4
  have G__law_entry := ok__law_entry (P := P) (w := w) (base := base) T
  have G__law_nested := ok__law_nested (P := P) (w := w) (base := base) T
  have G__law_node := ok__law_node (P := P) (w := w) (base := base) T
  have G__law_take := ok__law_take (P := P) (w := w) (base := base) T
  have G__law_text := ok__law_text (P := P) (w := w) (base := base) T
  refine fnB T.F__law_thing sc (fun ds ⟨ns, e, _⟩ => by rw [e]; rfl) ?_
  intro cdv A fr s H E S0 b l hst hr
  refine ⟨_, (ss_cons (sd_set (i := 2) sc.nd rfl (by first | exact Or.inl rfl | exact Or.inr rfl) (ed_callB (i := 0) G__law_take hst (hr.mono (by first | decide | omega)) rfl T.m__law_take T.F__law_take.kp T.b__law_take (pa_bag 0  (ha := (ad_cons (ed_ix rfl (ed_lst (ad_cons ed_int (ad_cons ed_int ad_nil))) (ed_bty call_int1 cc_int (by rfl) T.z_int (by decide +kernel) (ad_cons (ed_cmp (op_eqD (hu64 hr)) o2_eq (ed_callB (i := 0) G__law_take hst (hr.mono (by first | decide | omega)) rfl T.m__law_take T.F__law_take.kp T.b__law_take (pa_bag 0  (ha := (ad_cons ed_int ad_nil)))) ed_int (nomark _)) ad_nil)) (fun _ _ => rfl)) ad_nil)))))
      (ss_cons (sd_set (i := 3) sc.nd rfl (by first | exact Or.inl rfl | exact Or.inr rfl) (ed_bty call_tuple_of cc_tuple (by rfl) T.z_tuple (by decide +kernel) (ad_cons (ed_lc (p := (.nm 4)) (own := [("_law_k", 4)]) rfl sc.nd (id_range rfl T.z_range (ad_cons (ed_v 2) ad_nil)) (blkOk_by (N := N__law_thing) (sc := defScope s__law_thing) (by decide +kernel)) (fun _ _ _ _ _ => (pg_name (i := 4) sc.nd rfl (by first | exact Or.inl rfl | exact Or.inr rfl))) (fun _ _ _ _ _ => ts_nil) (fun _ _ _ _ _ => (ed_ix rfl (ed_v 1) (ed_callB (i := 0) G__law_take hst (hr.mono (by first | decide | omega)) rfl T.m__law_take T.F__law_take.kp T.b__law_take (pa_bag 0  (ha := (ad_cons ed_int ad_nil)))) (fun _ _ => rfl)))) ad_nil)))
      (ss_cons (sd_setO (i := 5) sc.nd rfl (by first | exact Or.inl rfl | exact Or.inr rfl) (oe_lst (ad_cons (ed_ix rfl (ed_v 1) (ed_callB (i := 0) G__law_take hst (hr.mono (by first | decide | omega)) rfl T.m__law_take T.F__law_take.kp T.b__law_take (pa_bag 0  (ha := (ad_cons ed_int ad_nil)))) (fun _ _ => rfl)) (ad_cons (ed_callB (i := 0) G__law_text hst (hr.mono (by first | decide | omega)) rfl T.m__law_text T.F__law_text.kp T.b__law_text (pa_bag 0  (ha := ad_nil))) (ad_cons (ed_v 3) (ad_cons (ed_callB (i := 0) G__law_content hst (hr.mono (by first | decide | omega)) rfl T.m__law_content T.F__law_content.kp T.b__law_content (pa_bag 0  (ha := (ad_cons ed_int ad_nil)))) (ad_cons (ed_callB (i := 0) G__law_node hst (hr.mono (by first | decide | omega)) rfl T.m__law_node T.F__law_node.kp T.b__law_node (pa_bag 0  (ha := (ad_cons ed_int ad_nil)))) (ad_cons (ed_callB (i := 0) G__law_entry hst (hr.mono (by first | decide | omega)) rfl T.m__law_entry T.F__law_entry.kp T.b__law_entry (pa_bag 0  (ha := ad_nil))) ad_nil))))))))
      (ss_cons (sd_put 5 rfl (he := ed_int) (he2 := (ed_ix rfl (ed_lst (ad_cons (ed_ixO 5 rfl (hb := ed_int) (hs := fun _ _ => rfl)) (ad_cons (ed_callB (i := 0) G__law_nested hst (hr.mono (by first | decide | omega)) rfl T.m__law_nested T.F__law_nested.kp T.b__law_nested (pa_bag 0  (ha := ad_nil))) ad_nil))) (ed_bty call_int1 cc_int (by rfl) T.z_int (by decide +kernel) (ad_cons (ed_cmp (op_eqD (hu64 hr)) o2_eq (ed_callB (i := 0) G__law_take hst (hr.mono (by first | decide | omega)) rfl T.m__law_take T.F__law_take.kp T.b__law_take (pa_bag 0  (ha := (ad_cons ed_int ad_nil)))) ed_int (nomark _)) ad_nil)) (fun _ _ => rfl))))
      (ss_frz 5 (ss_one (sd_ret (ed_ix rfl (ed_op op_cat o2_addL (ed_v 5) (ed_lst (ad_cons (ed_op op_sub o2_int (ed_callB (i := 0) G__law_take hst (hr.mono (by first | decide | omega)) rfl T.m__law_take T.F__law_take.kp T.b__law_take (pa_bag 0  (ha := (ad_cons ed_int ad_nil)))) ed_int) ad_nil))) (ed_callB (i := 0) G__law_take hst (hr.mono (by first | decide | omega)) rfl T.m__law_take T.F__law_take.kp T.b__law_take (pa_bag 0  (ha := (ad_cons ed_int ad_nil)))) (fun _ _ => rfl))))))))), ?_⟩

  rintro ds ⟨ns, rfl, hl, hn⟩
  simp only [sSeq, sIf, sRet, sSet, sPar, sNext, sExpr, sFor, dV, dC, dNil, dCons, dTup, dLst, d2, dTest, fI, fIc, fEq, fNe, fIn, fIs, fIsNot, dAnd, dOr, dNot, dIf, dCall, dCallB, dLc, iL, iT, iR, iR2, dYes, fIx, dB, fLen, fSum, fAll, fAny, fInt, fTuple, fList, dIsi, fInT, fNinT, fRepr, tA, tO, tN, dU, fAbs, fAdd, oN, oS, dSl, fInS, fNinS, fMulS, fEqS, fNeS, gD, gB, sSetO, sParO, sFrz, sApp, sIns, sPut, dIxO, dSlO, dView, tView, viewB, D.plain, fNin, dChain, fRep, fOneT, fIsBl, dJoin, dSplit, dDict1, iS, fCat, fEqE, sAsg, setP, setAll, sCut, fAddS, fAddL, fAddT, fEqT0, dStep, dIndex, sPar3, dGet2, dInK, dGetK, fNeDA, fDictD, fDictP, dStar, fIsNotBl, dDc]
  simp
  have some4 : ∀ {R : D → Prop}, (∀ s, TxB 16 s → R (.str s)) → preT [.int 4] ∧ ∀ r, postT [.int 4] r → ∃ i, r = .int i ∧ ∃ x, ixD (.lst ns) i = some x ∧ R x := fun {R} h => draw (by decide) (by decide) fun z z0 z1 => ⟨z, rfl, pick z0 (by rw [hl]; exact z1) fun x hx => by
    obtain ⟨s, rfl, hs⟩ := hn x hx
    exact h s hs⟩
  refine draw (by decide) (by decide) fun i i0 i1 => ⟨Cmp.int, Cmp.int, _, rfl, pick (by split <;> simp) (by split <;> simp) fun m hm => ?_⟩
  obtain ⟨mm, rfl, m0, m1⟩ : ∃ mm : Int, m = .int mm ∧ 0 < mm ∧ mm ≤ 31 := by
    simp only [List.mem_cons, List.not_mem_nil, or_false] at hm
    rcases hm with rfl | rfl
    · exact ⟨_, rfl, by decide, by decide⟩
    · exact ⟨_, rfl, by decide, by decide⟩
  refine draw m0 (by omega) fun j j0 j1 => ⟨j, rfl, by omega, by omega, by rw [rng_len]; omega, ?_⟩
  refine lcK_of (fun _ out => ∃ s, out = [.str s] ∧ TxB 16 s) (fun d hd kk h => ⟨_, rfl, ?_⟩) fun outs hg => ?_
  · simp only [sSeq, sIf, sRet, sSet, sPar, sNext, sExpr, sFor, dV, dC, dNil, dCons, dTup, dLst, d2, dTest, fI, fIc, fEq, fNe, fIn, fIs, fIsNot, dAnd, dOr, dNot, dIf, dCall, dCallB, dLc, iL, iT, iR, iR2, dYes, fIx, dB, fLen, fSum, fAll, fAny, fInt, fTuple, fList, dIsi, fInT, fNinT, fRepr, tA, tO, tN, dU, fAbs, fAdd, oN, oS, dSl, fInS, fNinS, fMulS, fEqS, fNeS, gD, gB, sSetO, sParO, sFrz, sApp, sIns, sPut, dIxO, dSlO, dView, tView, viewB, D.plain, fNin, dChain, fRep, fOneT, fIsBl, dJoin, dSplit, dDict1, iS, fCat, fEqE, sAsg, setP, setAll, sCut, fAddS, fAddL, fAddT, fEqT0, dStep, dIndex, sPar3, dGet2, dInK, dGetK, fNeDA, fDictD, fDictP, dStar, fIsNotBl, dDc, wipeG]
    simp
    exact some4 fun s hs => h _ ⟨s, rfl, hs⟩
  have hpl : outs.length ≤ 31 := by
    have := hg.len1 fun d out ⟨s, e, _⟩ => by rw [e]; rfl
    rw [rng_len] at this
    omega
  have hpath : SFit 14 20000 (.tup outs) := (SFit.tup.mpr (SFitA.all (a := 0) (b := 16) fun d hd => by
    obtain ⟨s, rfl, hs⟩ := hg.all (fun d out ⟨s, e, hs⟩ y hm => by
      rw [e] at hm
      rw [List.mem_singleton.mp hm]
      exact ⟨s, rfl, hs⟩ : ∀ d out, _ → ∀ y ∈ out, ∃ s, y = D.str s ∧ TxB 16 s) d hd
    exact hs.fit.s)).mono (by decide) (by omega)
  refine ⟨outs, .inl rfl, some4 fun nm hnm => ⟨rfl, fun tx htx => ⟨⟨3, rfl, by decide, by decide⟩, fun ct hct => ⟨⟨2, rfl, by decide, by decide⟩, fun nd hnd => ⟨rfl, fun en hen => ?_⟩⟩⟩⟩⟩
  refine ⟨ct, rfl, rfl, fun ne hne => draw (by decide) (by decide) fun c c0 c1 => ⟨Cmp.int, Cmp.int, _, rfl, pick (by split <;> simp) (by split <;> simp) fun x hx => ⟨3, rfl, draw (by decide) (by decide) fun e e0 e1 => ⟨e, rfl, draw (by decide) (by decide) fun g g0 g1 => ⟨g, rfl, pick g0 (by simpa using g1) fun y hy => ?_⟩⟩⟩⟩⟩
  have fx : SFit 14 20000 x := by
    simp only [List.mem_cons, List.not_mem_nil, or_false] at hx
    rcases hx with rfl | rfl
    · exact (isC_fit (n := 3) hct).s.mono (by decide) (by decide)
    · exact (show SFit 12 200 _ from hne).mono (by decide) (by decide)
  show SFit 14 20000 y
  simp only [List.set, List.cons_append, List.nil_append, List.mem_cons, List.not_mem_nil, or_false] at hy
  rcases hy with rfl | rfl | rfl | rfl | rfl | rfl | rfl
  · exact (hnm.fit (a := 14)).s.mono (by decide) (by decide)
  · exact (txt_fit _ htx).2.s.mono (by decide) (by decide)
  · exact hpath
  · exact fx
  · exact hnd.choose_spec.choose_spec.2.s.mono (by decide) (by decide)
  · exact (show Fit 5 6000 _ from hen).s.mono (by decide) (by decide)
  · exact SFit.int (by omega)
end
end K11
namespace K11
open PySem L2 DL
section
variable {P : Program} {w : World} {K : PySem.W.Frag} {mg : Str → Option Value} {base : Heap}
theorem ok_law (T : Tx K mg) : FnG P w K mg base CX0 (150 + 1) T.f_law T.d_law ["_law_script"] (spL K) := by
  have sc := sc_law
  have G__law_alike := ok__law_alike (P := P) (w := w) (base := base) T
  have G__law_bag := ok__law_bag (P := P) (w := w) (base := base) T
  have G__law_is_content := ok__law_is_content (P := P) (w := w) (base := base) T 60
  have G__law_is_entry := ok__law_is_entry (P := P) (w := w) (base := base) T
  have G__law_is_name := ok__law_is_name (P := P) (w := w) (base := base) T
  have G__law_is_node := ok__law_is_node (P := P) (w := w) (base := base) T
  have G__law_is_path := ok__law_is_path (P := P) (w := w) (base := base) T
  have G__law_is_rights := ok__law_is_rights (P := P) (w := w) (base := base) T
  have G__law_is_text := ok__law_is_text (P := P) (w := w) (base := base) T
  have G__law_names := ok__law_names (P := P) (w := w) (base := base) T
  have G__law_spoiled := ok__law_spoiled (P := P) (w := w) (base := base) T 30
  have G__law_take := ok__law_take (P := P) (w := w) (base := base) T
  have G__law_thing := ok__law_thing (P := P) (w := w) (base := base) T
  have G__law_whole := ok__law_whole (P := P) (w := w) (base := base) T
  have G_is_content := ok_is_content (P := P) (w := w) (base := base) T 60
  have G_is_entry := ok_is_entry (P := P) (w := w) (base := base) T
  have G_is_integer := ok_is_integer (P := P) (w := w) (base := base) T
  have G_is_name := ok_is_name (P := P) (w := w) (base := base) T
  have G_is_node := ok_is_node (P := P) (w := w) (base := base) T
  have G_is_path := ok_is_path (P := P) (w := w) (base := base) T
  have G_is_rights := ok_is_rights (P := P) (w := w) (base := base) T
  have G_is_text := ok_is_text (P := P) (w := w) (base := base) T
  refine lawD T.F_law sc (by decide) ?_
  intro cdv A fr s H E S0 b l H1 hst hr
  refine ⟨_, _, _, rfl, ps_set (i := 1) sc.nd rfl (by first | exact Or.inl rfl | exact Or.inr rfl) (pe_callG G__law_bag hst (hr.mono (by decide)) rfl T.m__law_bag T.F__law_bag.kp T.b__law_bag .nil pass0 (pa_cons (pv 0) pa_nil)), (ss_cons (sd_set (i := 2) sc.nd rfl (by first | exact Or.inl rfl | exact Or.inr rfl) (ed_callB (i := 1) G__law_names hst (hr.mono (by first | decide | omega)) rfl T.m__law_names T.F__law_names.kp T.b__law_names (pa_bag 1  (ha := (ad_cons ed_int ad_nil)))))
      (ss_cons (sd_for (p := (.nm 3)) PassesOwn.never rfl (id_range rfl T.z_range (ad_cons ed_int ad_nil)) (pg_name (i := 3) sc.nd rfl (by first | exact Or.inl rfl | exact Or.inr rfl)) (ss_cons (sd_set (i := 4) sc.nd rfl (by first | exact Or.inl rfl | exact Or.inr rfl) (ed_callB (i := 1) G__law_thing hst (hr.mono (by first | decide | omega)) rfl T.m__law_thing T.F__law_thing.kp T.b__law_thing (pa_bag 1  (ha := (ad_cons (ed_v 2) ad_nil)))))
      (ss_cons (sd_for (p := (.nm 5)) PassesOwn.never rfl (id_range rfl T.z_range (ad_cons (ed_callB (i := 1) G__law_take hst (hr.mono (by first | decide | omega)) rfl T.m__law_take T.F__law_take.kp T.b__law_take (pa_bag 1  (ha := (ad_cons ed_int ad_nil)))) ad_nil)) (pg_name (i := 5) sc.nd rfl (by first | exact Or.inl rfl | exact Or.inr rfl)) (ss_one (sd_set (i := 4) sc.nd rfl (by first | exact Or.inl rfl | exact Or.inr rfl) (ed_callB (i := 1) G__law_spoiled hst (hr.mono (by first | decide | omega)) rfl T.m__law_spoiled T.F__law_spoiled.kp T.b__law_spoiled (pa_bag 1  (ha := (ad_cons (ed_v 4) ad_nil)))))))
      (ss_cons (sd_set (i := 6) sc.nd rfl (by first | exact Or.inl rfl | exact Or.inr rfl) (ed_blt (call_repr hst (hu70 hr)) cc_repr (by rfl) T.z_repr (by decide +kernel) (ad_cons (ed_v 4) ad_nil)))
      (ss_cons (sd_set (i := 7) sc.nd rfl (by first | exact Or.inl rfl | exact Or.inr rfl) (ed_lst (ad_cons (ed_call G__law_whole hst (hr.mono (by first | decide | omega)) rfl T.m__law_whole T.F__law_whole.kp T.b__law_whole (ad_cons (ed_v 4) ad_nil)) (ad_cons (ed_call G__law_is_name hst (hr.mono (by first | decide | omega)) rfl T.m__law_is_name T.F__law_is_name.kp T.b__law_is_name (ad_cons (ed_v 4) ad_nil)) (ad_cons (ed_call G__law_is_text hst (hr.mono (by first | decide | omega)) rfl T.m__law_is_text T.F__law_is_text.kp T.b__law_is_text (ad_cons (ed_v 4) ad_nil)) (ad_cons (ed_call G__law_is_path hst (hr.mono (by first | decide | omega)) rfl T.m__law_is_path T.F__law_is_path.kp T.b__law_is_path (ad_cons (ed_v 4) ad_nil)) ad_nil))))))
      (ss_cons (sd_set (i := 7) sc.nd rfl (by first | exact Or.inl rfl | exact Or.inr rfl) (ed_op op_cat o2_addL (ed_v 7) (ed_lst (ad_cons (ed_call G__law_is_content hst (hr.mono (by first | decide | omega)) rfl T.m__law_is_content T.F__law_is_content.kp T.b__law_is_content (ad_cons (ed_v 4) ad_nil)) (ad_cons (ed_call G__law_is_rights hst (hr.mono (by first | decide | omega)) rfl T.m__law_is_rights T.F__law_is_rights.kp T.b__law_is_rights (ad_cons (ed_v 4) ad_nil)) (ad_cons (ed_call G__law_is_node hst (hr.mono (by first | decide | omega)) rfl T.m__law_is_node T.F__law_is_node.kp T.b__law_is_node (ad_cons (ed_v 4) ad_nil)) (ad_cons (ed_call G__law_is_entry hst (hr.mono (by first | decide | omega)) rfl T.m__law_is_entry T.F__law_is_entry.kp T.b__law_is_entry (ad_cons (ed_v 4) ad_nil)) ad_nil)))))))
      (ss_one (sd_for (p := (.nm 8)) PassesOwn.never rfl (id_range rfl T.z_range (ad_cons ed_int ad_nil)) (pg_name (i := 8) sc.nd rfl (by first | exact Or.inl rfl | exact Or.inr rfl)) (ss_cons (sd_set (i := 9) sc.nd rfl (by first | exact Or.inl rfl | exact Or.inr rfl) (ed_lst (ad_cons (ed_call G_is_integer hst (hr.mono (by first | decide | omega)) rfl T.m_is_integer T.F_is_integer.kp T.b_is_integer (ad_cons (ed_v 4) ad_nil)) (ad_cons (ed_call G_is_name hst (hr.mono (by first | decide | omega)) rfl T.m_is_name T.F_is_name.kp T.b_is_name (ad_cons (ed_v 4) ad_nil)) (ad_cons (ed_call G_is_text hst (hr.mono (by first | decide | omega)) rfl T.m_is_text T.F_is_text.kp T.b_is_text (ad_cons (ed_v 4) ad_nil)) (ad_cons (ed_call G_is_path hst (hr.mono (by first | decide | omega)) rfl T.m_is_path T.F_is_path.kp T.b_is_path (ad_cons (ed_v 4) ad_nil)) ad_nil))))))
      (ss_cons (sd_set (i := 9) sc.nd rfl (by first | exact Or.inl rfl | exact Or.inr rfl) (ed_op op_cat o2_addL (ed_v 9) (ed_lst (ad_cons (ed_call G_is_content hst (hr.mono (by first | decide | omega)) rfl T.m_is_content T.F_is_content.kp T.b_is_content (ad_cons (ed_v 4) ad_nil)) (ad_cons (ed_call G_is_rights hst (hr.mono (by first | decide | omega)) rfl T.m_is_rights T.F_is_rights.kp T.b_is_rights (ad_cons (ed_v 4) ad_nil)) (ad_cons (ed_call G_is_node hst (hr.mono (by first | decide | omega)) rfl T.m_is_node T.F_is_node.kp T.b_is_node (ad_cons (ed_v 4) ad_nil)) (ad_cons (ed_call G_is_entry hst (hr.mono (by first | decide | omega)) rfl T.m_is_entry T.F_is_entry.kp T.b_is_entry (ad_cons (ed_v 4) ad_nil)) ad_nil)))))))
      (ss_one (sd_if (td_w (tw_or (td_not (td_bl (ed_call G__law_alike hst (hr.mono (by first | decide | omega)) rfl T.m__law_alike T.F__law_alike.kp T.b__law_alike (ad_cons (ed_v 9) (ad_cons (ed_v 7) ad_nil))) (fun _ => rfl))) (tw_or1 (td_cmp op_ne o2_neS (ed_blt (call_repr hst (hu70 hr)) cc_repr (by rfl) T.z_repr (by decide +kernel) (ad_cons (ed_v 4) ad_nil)) (ed_v 6) (nomark _))))) (ss_one (sd_ret ed_bl)) ss_nil))))))))))))
      (ss_one (sd_ret (ed_and (ed_cmp DL.op_isBl o2_isBl (ed_call G_is_path hst (hr.mono (by first | decide | omega)) rfl T.m_is_path T.F_is_path.kp T.b_is_path (ad_cons (ed_op op_oneT o2_oneT (ed_tup (ad_cons ed_str ad_nil)) ed_int) ad_nil)) ed_bl (nomark _)) (ed_one (ed_cmp DL.op_isBl o2_isBl (ed_call G_is_path hst (hr.mono (by first | decide | omega)) rfl T.m_is_path T.F_is_path.kp T.b_is_path (ad_cons (ed_op op_catA (o2_addT rfl) (ed_op op_oneT o2_oneT (ed_tup (ad_cons ed_str ad_nil)) ed_int) (ed_tup (ad_cons ed_str ad_nil))) ad_nil)) ed_bl (nomark _)))))))), ?_⟩

  simp only [sSeq, sIf, sRet, sSet, sPar, sNext, sExpr, sFor, dV, dC, dNil, dCons, dTup, dLst, d2, dTest, fI, fIc, fEq, fNe, fIn, fIs, fIsNot, dAnd, dOr, dNot, dIf, dCall, dCallB, dLc, iL, iT, iR, iR2, dYes, fIx, dB, fLen, fSum, fAll, fAny, fInt, fTuple, fList, dIsi, fInT, fNinT, fRepr, tA, tO, tN, dU, fAbs, fAdd, oN, oS, dSl, fInS, fNinS, fMulS, fEqS, fNeS, gD, gB, sSetO, sParO, sFrz, sApp, sIns, sPut, dIxO, dSlO, dView, tView, viewB, D.plain, fNin, dChain, fRep, fOneT, fIsBl, dJoin, dSplit, dDict1, iS, fCat, fEqE, sAsg, setP, setAll, sCut, fAddS, fAddL, fAddT, fEqT0, dStep, dIndex, sPar3, dGet2, dInK, dGetK, fNeDA, fDictD, fDictP, dStar, fIsNotBl, dDc]
  simp
  refine ⟨rfl, fun nsd hns => ?_⟩
  refine loopK_of (fun Γ => ∃ x3 x4 x5 x6 x7 x8 x9 : Option B, Γ = [none, some .bag, some (.dat nsd), x3, x4, x5, x6, x7, x8, x9]) ?turn ⟨_, _, _, _, _, _, _, rfl⟩ ?rest
  case turn =>
    rintro d hd Γ O' ⟨x3, x4, x5, x6, x7, x8, x9, rfl⟩ kn kc er _
    refine ⟨_, rfl, ?_⟩
    simp only [sSeq, sIf, sRet, sSet, sPar, sNext, sExpr, sFor, dV, dC, dNil, dCons, dTup, dLst, d2, dTest, fI, fIc, fEq, fNe, fIn, fIs, fIsNot, dAnd, dOr, dNot, dIf, dCall, dCallB, dLc, iL, iT, iR, iR2, dYes, fIx, dB, fLen, fSum, fAll, fAny, fInt, fTuple, fList, dIsi, fInT, fNinT, fRepr, tA, tO, tN, dU, fAbs, fAdd, oN, oS, dSl, fInS, fNinS, fMulS, fEqS, fNeS, gD, gB, sSetO, sParO, sFrz, sApp, sIns, sPut, dIxO, dSlO, dView, tView, viewB, D.plain, fNin, dChain, fRep, fOneT, fIsBl, dJoin, dSplit, dDict1, iS, fCat, fEqE, sAsg, setP, setAll, sCut, fAddS, fAddL, fAddT, fEqT0, dStep, dIndex, sPar3, dGet2, dInK, dGetK, fNeDA, fDictD, fDictP, dStar, fIsNotBl, dDc]
    simp
    obtain ⟨ns, rfl, hl, hn⟩ := hns
    refine ⟨⟨ns, rfl, hl, hn⟩, fun th0 hth0 => draw (by decide) (by decide) fun j j0 j1 => ⟨j, rfl, by omega, by omega, ?_⟩⟩
    refine loopK_at (fun n Γ => ∃ (th : D) (y5 : Option B), ((n = 0 ∧ SFit 14 20000 th) ∨ (n = 1 ∧ SFit 24 58200 th) ∨ (n = 2 ∧ SFit 34 134600 th)) ∧ Γ = [none, some .bag, some (.dat (.lst ns)), some (.dat d), some (.dat th), y5, x6, x7, x8, x9]) 0 ?sp ⟨th0, x5, .inl ⟨rfl, hth0⟩, rfl⟩ ?go
    case sp =>
      rintro i e he Γ O2 ⟨th, y5, hi, rfl⟩ kn2 kc2 _ _
      have hi2 : i < 2 := by
        have := (List.getElem?_eq_some_iff.mp he).1
        rw [rng_len] at this
        omega
      refine ⟨_, rfl, ?_⟩
      simp only [sSeq, sIf, sRet, sSet, sPar, sNext, sExpr, sFor, dV, dC, dNil, dCons, dTup, dLst, d2, dTest, fI, fIc, fEq, fNe, fIn, fIs, fIsNot, dAnd, dOr, dNot, dIf, dCall, dCallB, dLc, iL, iT, iR, iR2, dYes, fIx, dB, fLen, fSum, fAll, fAny, fInt, fTuple, fList, dIsi, fInT, fNinT, fRepr, tA, tO, tN, dU, fAbs, fAdd, oN, oS, dSl, fInS, fNinS, fMulS, fEqS, fNeS, gD, gB, sSetO, sParO, sFrz, sApp, sIns, sPut, dIxO, dSlO, dView, tView, viewB, D.plain, fNin, dChain, fRep, fOneT, fIsBl, dJoin, dSplit, dDict1, iS, fCat, fEqE, sAsg, setP, setAll, sCut, fAddS, fAddL, fAddT, fEqT0, dStep, dIndex, sPar3, dGet2, dInK, dGetK, fNeDA, fDictD, fDictP, dStar, fIsNotBl, dDc]
      simp
      have hp : SFit 29 60000 th := by
        rcases hi with ⟨_, h⟩ | ⟨_, h⟩ | ⟨h, _⟩
        · exact h.mono (by decide) (by decide)
        · exact h.mono (by decide) (by decide)
        · omega
      refine ⟨⟨th, rfl, by decide, hp⟩, ?_⟩
      rintro r ⟨th', e', hsp⟩
      cases e'
      refine kn2 _ ⟨r, _, ?_, rfl⟩
      rcases hi with ⟨h0, h⟩ | ⟨h0, h⟩ | ⟨h0, _⟩
      · exact .inr (.inl ⟨by omega, hsp 14 20000 h⟩)
      · exact .inr (.inr ⟨by omega, hsp 24 58200 h⟩)
      · omega
    case go =>
      rintro Γ ⟨th, y5, hi, rfl⟩
      have h34 : SFit 34 134600 th := by
        rcases hi with ⟨_, h⟩ | ⟨_, h⟩ | ⟨_, h⟩
        · exact h.mono (by decide) (by decide)
        · exact h.mono (by decide) (by decide)
        · exact h
      have ok : Ok 60 th := h34.mono (by decide) (by decide)
      have shw : Shw th := h34.shw (by decide) (by decide)
      have cont : ∃ d m, [th] = [d] ∧ 60 = m + 1 ∧ 60 ≤ 60 ∧ Ok m d := ⟨th, 59, rfl, rfl, Nat.le_refl _, h34.mono (by decide) (by decide)⟩
      simp only [sSeq, sIf, sRet, sSet, sPar, sNext, sExpr, sFor, dV, dC, dNil, dCons, dTup, dLst, d2, dTest, fI, fIc, fEq, fNe, fIn, fIs, fIsNot, dAnd, dOr, dNot, dIf, dCall, dCallB, dLc, iL, iT, iR, iR2, dYes, fIx, dB, fLen, fSum, fAll, fAny, fInt, fTuple, fList, dIsi, fInT, fNinT, fRepr, tA, tO, tN, dU, fAbs, fAdd, oN, oS, dSl, fInS, fNinS, fMulS, fEqS, fNeS, gD, gB, sSetO, sParO, sFrz, sApp, sIns, sPut, dIxO, dSlO, dView, tView, viewB, D.plain, fNin, dChain, fRep, fOneT, fIsBl, dJoin, dSplit, dDict1, iS, fCat, fEqE, sAsg, setP, setAll, sCut, fAddS, fAddL, fAddT, fEqT0, dStep, dIndex, sPar3, dGet2, dInK, dGetK, fNeDA, fDictD, fDictP, dStar, fIsNotBl, dDc]
      simp
      refine ⟨shw, ask (n := 60) (f := wholeD) ok (ask (n := 60) (f := nameD) ok (ask (n := 60) (f := textD) ok (ask (n := 60) (f := pathD) ok ⟨cont, ?_⟩)))⟩
      rintro r ⟨th', e', rfl⟩
      cases e'
      refine ask (n := 60) (f := rightsD) ok (ask (n := 60) (f := nodeD) ok (ask (n := 60) (f := entryD) ok ?_))
      refine loopK_of (fun Γ => ∃ y8 y9 : Option B, Γ = [none, some .bag, some (.dat (.lst ns)), some (.dat d), some (.dat th), y5, some (.dat (.str th.py.shown)), some (.dat (.lst [D.bl (wholeD th), D.bl (nameD th), D.bl (textD th), D.bl (pathD th), D.bl (contD 60 th), D.bl (rightsD th), D.bl (nodeD th), D.bl (entryD th)])), y8, y9]) ?again ⟨_, _, rfl⟩ fun Γ2 ⟨y8, y9, e⟩ => kn _ ⟨_, _, _, _, _, _, _, e⟩
      rintro e0 he0 Γ O3 ⟨y8, y9, rfl⟩ kn3 kc3 _ _
      refine ⟨_, rfl, ?_⟩
      simp only [sSeq, sIf, sRet, sSet, sPar, sNext, sExpr, sFor, dV, dC, dNil, dCons, dTup, dLst, d2, dTest, fI, fIc, fEq, fNe, fIn, fIs, fIsNot, dAnd, dOr, dNot, dIf, dCall, dCallB, dLc, iL, iT, iR, iR2, dYes, fIx, dB, fLen, fSum, fAll, fAny, fInt, fTuple, fList, dIsi, fInT, fNinT, fRepr, tA, tO, tN, dU, fAbs, fAdd, oN, oS, dSl, fInS, fNinS, fMulS, fEqS, fNeS, gD, gB, sSetO, sParO, sFrz, sApp, sIns, sPut, dIxO, dSlO, dView, tView, viewB, D.plain, fNin, dChain, fRep, fOneT, fIsBl, dJoin, dSplit, dDict1, iS, fCat, fEqE, sAsg, setP, setAll, sCut, fAddS, fAddL, fAddT, fEqT0, dStep, dIndex, sPar3, dGet2, dInK, dGetK, fNeDA, fDictD, fDictP, dStar, fIsNotBl, dDc]
      simp
      refine ask (n := 60) (f := wholeD) ok (ask (n := 60) (f := nameD) ok (ask (n := 60) (f := textD) ok (ask (n := 60) (f := pathD) ok ⟨cont, ?_⟩)))
      rintro r ⟨th', e', rfl⟩
      cases e'
      refine ask (n := 60) (f := rightsD) ok (ask (n := 60) (f := nodeD) ok (ask (n := 60) (f := entryD) ok ?_))
      refine ⟨⟨_, rfl, (Fit.lst (a := 0) (b := 0) fun x hx => ?_).mono (by decide) (by simp)⟩, ?_⟩
      · simp only [List.mem_cons, List.not_mem_nil, or_false] at hx
        rcases hx with rfl | rfl | rfl | rfl | rfl | rfl | rfl | rfl <;> exact Fit.bl
      rintro v rfl
      exact .inr ⟨rfl, shw, kn3 _ ⟨_, _, rfl⟩⟩
  case rest =>
    rintro Γ ⟨x3, x4, x5, x6, x7, x8, x9, rfl⟩
    simp only [sSeq, sIf, sRet, sSet, sPar, sNext, sExpr, sFor, dV, dC, dNil, dCons, dTup, dLst, d2, dTest, fI, fIc, fEq, fNe, fIn, fIs, fIsNot, dAnd, dOr, dNot, dIf, dCall, dCallB, dLc, iL, iT, iR, iR2, dYes, fIx, dB, fLen, fSum, fAll, fAny, fInt, fTuple, fList, dIsi, fInT, fNinT, fRepr, tA, tO, tN, dU, fAbs, fAdd, oN, oS, dSl, fInS, fNinS, fMulS, fEqS, fNeS, gD, gB, sSetO, sParO, sFrz, sApp, sIns, sPut, dIxO, dSlO, dView, tView, viewB, D.plain, fNin, dChain, fRep, fOneT, fIsBl, dJoin, dSplit, dDict1, iS, fCat, fEqE, sAsg, setP, setAll, sCut, fAddS, fAddL, fAddT, fEqT0, dStep, dIndex, sPar3, dGet2, dInK, dGetK, fNeDA, fDictD, fDictP, dStar, fIsNotBl, dDc]
    simp [-List.reduceReplicate]
    have nA : nameD (.str (Str.ofString "a")) = true := by decide +kernel
    have nB : nameD (.str (Str.ofString "A")) = false := by decide +kernel
    have fA : ∀ {a : Nat}, SFit a 1 (.str (Str.ofString "a")) := SFit.str (by decide +kernel) (by decide +kernel)
    have fB : ∀ {a : Nat}, SFit a 1 (.str (Str.ofString "A")) := SFit.str (by decide +kernel) (by decide +kernel)
    have okT : ∀ xs : List D, xs.length ≤ 9000 → (∀ x ∈ xs, SFit 59 1 x) → Ok 60 (.tup xs) := fun xs hl hx => (SFit.tup.mpr (SFitA.all hx)).mono (Nat.le_refl _) (by omega)
    have w1 : ∀ n : Nat, List.all (List.replicate n (D.str (Str.ofString "a"))) nameD = true := fun n => by
      rw [List.all_eq_true]
      intro x hx
      rw [List.eq_of_mem_replicate hx]
      exact nA
    have w2 : List.all (List.replicate 8999 (D.str (Str.ofString "a")) ++ [D.str (Str.ofString "A")]) nameD = false := by
      rw [List.all_append, List.all_cons, nB, Bool.false_and, Bool.and_false]
    have p1 : ∀ xs : List D, pathD (.tup xs) = List.all xs nameD := fun _ => rfl
    refine ask (n := 60) (f := pathD) (okT _ (by rw [List.length_replicate]; decide) fun x hx => ?_) ⟨?_, ask (n := 60) (f := pathD) (okT _ ?_ fun x hx => ?_) ?_⟩
    · rw [List.eq_of_mem_replicate hx]
      exact fA
    · rw [p1, w1]
    · rw [List.length_append, List.length_replicate]
      decide
    · rcases List.mem_append.mp hx with h | h
      · rw [List.eq_of_mem_replicate h]
        exact fA
      · rw [List.mem_singleton.mp h]
        exact fB
    · rw [p1, w2]
end
theorem all_mk {l : PySem.W.OpenLaw} {w : World} {K : PySem.W.Frag} {h : Heap} {mg : Str → Option Value} {fa : Addr} (X : K.In h) (G : h.Ns mainGlobals mg) (hfa : mg "law" = some (.ref fa))
    {od0 an0 : Option Addr} {sl0 : Array (Option Value)} {oc0 kV0 dc0 pm0 cd0 ct0 : Value} {f0 : Addr}
    (a0 : PySem.W.nsIn K mainGlobals "is_integer" = some (some (.ref f0))) (l0 : K.lookup f0 = some ⟨oc0, od0, .func (PySem.W.fnOf "is_integer" "is_integer" (defArgs s_is_integer) (defBody s_is_integer) (defScope s_is_integer) .none kV0 dc0 pm0 an0 cd0 ct0), sl0⟩) (c0 : PySem.W.codeIn K cd0 "is_integer" = true) (k0 : PySem.W.keepIn K (.ref f0) = true)
    {od1 an1 : Option Addr} {sl1 : Array (Option Value)} {oc1 kV1 dc1 pm1 cd1 ct1 : Value} {f1 : Addr}
    (a1 : PySem.W.nsIn K mainGlobals "is_name" = some (some (.ref f1))) (l1 : K.lookup f1 = some ⟨oc1, od1, .func (PySem.W.fnOf "is_name" "is_name" (defArgs s_is_name) (defBody s_is_name) (defScope s_is_name) .none kV1 dc1 pm1 an1 cd1 ct1), sl1⟩) (c1 : PySem.W.codeIn K cd1 "is_name" = true) (k1 : PySem.W.keepIn K (.ref f1) = true)
    {od2 an2 : Option Addr} {sl2 : Array (Option Value)} {oc2 kV2 dc2 pm2 cd2 ct2 : Value} {f2 : Addr}
    (a2 : PySem.W.nsIn K mainGlobals "is_path" = some (some (.ref f2))) (l2 : K.lookup f2 = some ⟨oc2, od2, .func (PySem.W.fnOf "is_path" "is_path" (defArgs s_is_path) (defBody s_is_path) (defScope s_is_path) .none kV2 dc2 pm2 an2 cd2 ct2), sl2⟩) (c2 : PySem.W.codeIn K cd2 "is_path" = true) (k2 : PySem.W.keepIn K (.ref f2) = true)
    {od3 an3 : Option Addr} {sl3 : Array (Option Value)} {oc3 kV3 dc3 pm3 cd3 ct3 : Value} {f3 : Addr}
    (a3 : PySem.W.nsIn K mainGlobals "is_text" = some (some (.ref f3))) (l3 : K.lookup f3 = some ⟨oc3, od3, .func (PySem.W.fnOf "is_text" "is_text" (defArgs s_is_text) (defBody s_is_text) (defScope s_is_text) .none kV3 dc3 pm3 an3 cd3 ct3), sl3⟩) (c3 : PySem.W.codeIn K cd3 "is_text" = true) (k3 : PySem.W.keepIn K (.ref f3) = true)
    {od4 an4 : Option Addr} {sl4 : Array (Option Value)} {oc4 kV4 dc4 pm4 cd4 ct4 : Value} {f4 : Addr}
    (a4 : PySem.W.nsIn K mainGlobals "is_content" = some (some (.ref f4))) (l4 : K.lookup f4 = some ⟨oc4, od4, .func (PySem.W.fnOf "is_content" "is_content" (defArgs s_is_content) (defBody s_is_content) (defScope s_is_content) .none kV4 dc4 pm4 an4 cd4 ct4), sl4⟩) (c4 : PySem.W.codeIn K cd4 "is_content" = true) (k4 : PySem.W.keepIn K (.ref f4) = true)
    {od5 an5 : Option Addr} {sl5 : Array (Option Value)} {oc5 kV5 dc5 pm5 cd5 ct5 : Value} {f5 : Addr}
    (a5 : PySem.W.nsIn K mainGlobals "are_parts" = some (some (.ref f5))) (l5 : K.lookup f5 = some ⟨oc5, od5, .func (PySem.W.fnOf "are_parts" "are_parts" (defArgs s_are_parts) (defBody s_are_parts) (defScope s_are_parts) .none kV5 dc5 pm5 an5 cd5 ct5), sl5⟩) (c5 : PySem.W.codeIn K cd5 "are_parts" = true) (k5 : PySem.W.keepIn K (.ref f5) = true)
    {od6 an6 : Option Addr} {sl6 : Array (Option Value)} {oc6 kV6 dc6 pm6 cd6 ct6 : Value} {f6 : Addr}
    (a6 : PySem.W.nsIn K mainGlobals "is_rights" = some (some (.ref f6))) (l6 : K.lookup f6 = some ⟨oc6, od6, .func (PySem.W.fnOf "is_rights" "is_rights" (defArgs s_is_rights) (defBody s_is_rights) (defScope s_is_rights) .none kV6 dc6 pm6 an6 cd6 ct6), sl6⟩) (c6 : PySem.W.codeIn K cd6 "is_rights" = true) (k6 : PySem.W.keepIn K (.ref f6) = true)
    {od7 an7 : Option Addr} {sl7 : Array (Option Value)} {oc7 kV7 dc7 pm7 cd7 ct7 : Value} {f7 : Addr}
    (a7 : PySem.W.nsIn K mainGlobals "is_node" = some (some (.ref f7))) (l7 : K.lookup f7 = some ⟨oc7, od7, .func (PySem.W.fnOf "is_node" "is_node" (defArgs s_is_node) (defBody s_is_node) (defScope s_is_node) .none kV7 dc7 pm7 an7 cd7 ct7), sl7⟩) (c7 : PySem.W.codeIn K cd7 "is_node" = true) (k7 : PySem.W.keepIn K (.ref f7) = true)
    {od8 an8 : Option Addr} {sl8 : Array (Option Value)} {oc8 kV8 dc8 pm8 cd8 ct8 : Value} {f8 : Addr}
    (a8 : PySem.W.nsIn K mainGlobals "is_entry" = some (some (.ref f8))) (l8 : K.lookup f8 = some ⟨oc8, od8, .func (PySem.W.fnOf "is_entry" "is_entry" (defArgs s_is_entry) (defBody s_is_entry) (defScope s_is_entry) .none kV8 dc8 pm8 an8 cd8 ct8), sl8⟩) (c8 : PySem.W.codeIn K cd8 "is_entry" = true) (k8 : PySem.W.keepIn K (.ref f8) = true)
    {od9 an9 : Option Addr} {sl9 : Array (Option Value)} {oc9 kV9 dc9 pm9 cd9 ct9 : Value} {f9 : Addr}
    (a9 : PySem.W.nsIn K mainGlobals "is_tagged" = some (some (.ref f9))) (l9 : K.lookup f9 = some ⟨oc9, od9, .func (PySem.W.fnOf "is_tagged" "is_tagged" (defArgs s_is_tagged) (defBody s_is_tagged) (defScope s_is_tagged) .none kV9 dc9 pm9 an9 cd9 ct9), sl9⟩) (c9 : PySem.W.codeIn K cd9 "is_tagged" = true) (k9 : PySem.W.keepIn K (.ref f9) = true)
    {od10 an10 : Option Addr} {sl10 : Array (Option Value)} {oc10 kV10 dc10 pm10 cd10 ct10 : Value} {f10 : Addr}
    (a10 : PySem.W.nsIn K mainGlobals "_law_bag" = some (some (.ref f10))) (l10 : K.lookup f10 = some ⟨oc10, od10, .func (PySem.W.fnOf "_law_bag" "_law_bag" (defArgs s__law_bag) (defBody s__law_bag) (defScope s__law_bag) .none kV10 dc10 pm10 an10 cd10 ct10), sl10⟩) (c10 : PySem.W.codeIn K cd10 "_law_bag" = true) (k10 : PySem.W.keepIn K (.ref f10) = true)
    {od11 an11 : Option Addr} {sl11 : Array (Option Value)} {oc11 kV11 dc11 pm11 cd11 ct11 : Value} {f11 : Addr}
    (a11 : PySem.W.nsIn K mainGlobals "_law_take" = some (some (.ref f11))) (l11 : K.lookup f11 = some ⟨oc11, od11, .func (PySem.W.fnOf "_law_take" "_law_take" (defArgs s__law_take) (defBody s__law_take) (defScope s__law_take) .none kV11 dc11 pm11 an11 cd11 ct11), sl11⟩) (c11 : PySem.W.codeIn K cd11 "_law_take" = true) (k11 : PySem.W.keepIn K (.ref f11) = true)
    {od12 an12 : Option Addr} {sl12 : Array (Option Value)} {oc12 kV12 dc12 pm12 cd12 ct12 : Value} {f12 : Addr}
    (a12 : PySem.W.nsIn K mainGlobals "_law_alike" = some (some (.ref f12))) (l12 : K.lookup f12 = some ⟨oc12, od12, .func (PySem.W.fnOf "_law_alike" "_law_alike" (defArgs s__law_alike) (defBody s__law_alike) (defScope s__law_alike) .none kV12 dc12 pm12 an12 cd12 ct12), sl12⟩) (c12 : PySem.W.codeIn K cd12 "_law_alike" = true) (k12 : PySem.W.keepIn K (.ref f12) = true)
    {od13 an13 : Option Addr} {sl13 : Array (Option Value)} {oc13 kV13 dc13 pm13 cd13 ct13 : Value} {f13 : Addr}
    (a13 : PySem.W.nsIn K mainGlobals "_law_names" = some (some (.ref f13))) (l13 : K.lookup f13 = some ⟨oc13, od13, .func (PySem.W.fnOf "_law_names" "_law_names" (defArgs s__law_names) (defBody s__law_names) (defScope s__law_names) .none kV13 dc13 pm13 an13 cd13 ct13), sl13⟩) (c13 : PySem.W.codeIn K cd13 "_law_names" = true) (k13 : PySem.W.keepIn K (.ref f13) = true)
    {od14 an14 : Option Addr} {sl14 : Array (Option Value)} {oc14 kV14 dc14 pm14 cd14 ct14 : Value} {f14 : Addr}
    (a14 : PySem.W.nsIn K mainGlobals "_law_text" = some (some (.ref f14))) (l14 : K.lookup f14 = some ⟨oc14, od14, .func (PySem.W.fnOf "_law_text" "_law_text" (defArgs s__law_text) (defBody s__law_text) (defScope s__law_text) .none kV14 dc14 pm14 an14 cd14 ct14), sl14⟩) (c14 : PySem.W.codeIn K cd14 "_law_text" = true) (k14 : PySem.W.keepIn K (.ref f14) = true)
    {od15 an15 : Option Addr} {sl15 : Array (Option Value)} {oc15 kV15 dc15 pm15 cd15 ct15 : Value} {f15 : Addr}
    (a15 : PySem.W.nsIn K mainGlobals "_law_content" = some (some (.ref f15))) (l15 : K.lookup f15 = some ⟨oc15, od15, .func (PySem.W.fnOf "_law_content" "_law_content" (defArgs s__law_content) (defBody s__law_content) (defScope s__law_content) .none kV15 dc15 pm15 an15 cd15 ct15), sl15⟩) (c15 : PySem.W.codeIn K cd15 "_law_content" = true) (k15 : PySem.W.keepIn K (.ref f15) = true)
    {od16 an16 : Option Addr} {sl16 : Array (Option Value)} {oc16 kV16 dc16 pm16 cd16 ct16 : Value} {f16 : Addr}
    (a16 : PySem.W.nsIn K mainGlobals "_law_node" = some (some (.ref f16))) (l16 : K.lookup f16 = some ⟨oc16, od16, .func (PySem.W.fnOf "_law_node" "_law_node" (defArgs s__law_node) (defBody s__law_node) (defScope s__law_node) .none kV16 dc16 pm16 an16 cd16 ct16), sl16⟩) (c16 : PySem.W.codeIn K cd16 "_law_node" = true) (k16 : PySem.W.keepIn K (.ref f16) = true)
    {od17 an17 : Option Addr} {sl17 : Array (Option Value)} {oc17 kV17 dc17 pm17 cd17 ct17 : Value} {f17 : Addr}
    (a17 : PySem.W.nsIn K mainGlobals "_law_odd" = some (some (.ref f17))) (l17 : K.lookup f17 = some ⟨oc17, od17, .func (PySem.W.fnOf "_law_odd" "_law_odd" (defArgs s__law_odd) (defBody s__law_odd) (defScope s__law_odd) .none kV17 dc17 pm17 an17 cd17 ct17), sl17⟩) (c17 : PySem.W.codeIn K cd17 "_law_odd" = true) (k17 : PySem.W.keepIn K (.ref f17) = true)
    {od18 an18 : Option Addr} {sl18 : Array (Option Value)} {oc18 kV18 dc18 pm18 cd18 ct18 : Value} {f18 : Addr}
    (a18 : PySem.W.nsIn K mainGlobals "_law_spoiled" = some (some (.ref f18))) (l18 : K.lookup f18 = some ⟨oc18, od18, .func (PySem.W.fnOf "_law_spoiled" "_law_spoiled" (defArgs s__law_spoiled) (defBody s__law_spoiled) (defScope s__law_spoiled) .none kV18 dc18 pm18 an18 cd18 ct18), sl18⟩) (c18 : PySem.W.codeIn K cd18 "_law_spoiled" = true) (k18 : PySem.W.keepIn K (.ref f18) = true)
    {od19 an19 : Option Addr} {sl19 : Array (Option Value)} {oc19 kV19 dc19 pm19 cd19 ct19 : Value} {f19 : Addr}
    (a19 : PySem.W.nsIn K mainGlobals "_law_whole" = some (some (.ref f19))) (l19 : K.lookup f19 = some ⟨oc19, od19, .func (PySem.W.fnOf "_law_whole" "_law_whole" (defArgs s__law_whole) (defBody s__law_whole) (defScope s__law_whole) .none kV19 dc19 pm19 an19 cd19 ct19), sl19⟩) (c19 : PySem.W.codeIn K cd19 "_law_whole" = true) (k19 : PySem.W.keepIn K (.ref f19) = true)
    {od20 an20 : Option Addr} {sl20 : Array (Option Value)} {oc20 kV20 dc20 pm20 cd20 ct20 : Value} {f20 : Addr}
    (a20 : PySem.W.nsIn K mainGlobals "_law_is_name" = some (some (.ref f20))) (l20 : K.lookup f20 = some ⟨oc20, od20, .func (PySem.W.fnOf "_law_is_name" "_law_is_name" (defArgs s__law_is_name) (defBody s__law_is_name) (defScope s__law_is_name) .none kV20 dc20 pm20 an20 cd20 ct20), sl20⟩) (c20 : PySem.W.codeIn K cd20 "_law_is_name" = true) (k20 : PySem.W.keepIn K (.ref f20) = true)
    {od21 an21 : Option Addr} {sl21 : Array (Option Value)} {oc21 kV21 dc21 pm21 cd21 ct21 : Value} {f21 : Addr}
    (a21 : PySem.W.nsIn K mainGlobals "_law_is_path" = some (some (.ref f21))) (l21 : K.lookup f21 = some ⟨oc21, od21, .func (PySem.W.fnOf "_law_is_path" "_law_is_path" (defArgs s__law_is_path) (defBody s__law_is_path) (defScope s__law_is_path) .none kV21 dc21 pm21 an21 cd21 ct21), sl21⟩) (c21 : PySem.W.codeIn K cd21 "_law_is_path" = true) (k21 : PySem.W.keepIn K (.ref f21) = true)
    {od22 an22 : Option Addr} {sl22 : Array (Option Value)} {oc22 kV22 dc22 pm22 cd22 ct22 : Value} {f22 : Addr}
    (a22 : PySem.W.nsIn K mainGlobals "_law_is_text" = some (some (.ref f22))) (l22 : K.lookup f22 = some ⟨oc22, od22, .func (PySem.W.fnOf "_law_is_text" "_law_is_text" (defArgs s__law_is_text) (defBody s__law_is_text) (defScope s__law_is_text) .none kV22 dc22 pm22 an22 cd22 ct22), sl22⟩) (c22 : PySem.W.codeIn K cd22 "_law_is_text" = true) (k22 : PySem.W.keepIn K (.ref f22) = true)
    {od23 an23 : Option Addr} {sl23 : Array (Option Value)} {oc23 kV23 dc23 pm23 cd23 ct23 : Value} {f23 : Addr}
    (a23 : PySem.W.nsIn K mainGlobals "_law_is_rights" = some (some (.ref f23))) (l23 : K.lookup f23 = some ⟨oc23, od23, .func (PySem.W.fnOf "_law_is_rights" "_law_is_rights" (defArgs s__law_is_rights) (defBody s__law_is_rights) (defScope s__law_is_rights) .none kV23 dc23 pm23 an23 cd23 ct23), sl23⟩) (c23 : PySem.W.codeIn K cd23 "_law_is_rights" = true) (k23 : PySem.W.keepIn K (.ref f23) = true)
    {od24 an24 : Option Addr} {sl24 : Array (Option Value)} {oc24 kV24 dc24 pm24 cd24 ct24 : Value} {f24 : Addr}
    (a24 : PySem.W.nsIn K mainGlobals "_law_is_content" = some (some (.ref f24))) (l24 : K.lookup f24 = some ⟨oc24, od24, .func (PySem.W.fnOf "_law_is_content" "_law_is_content" (defArgs s__law_is_content) (defBody s__law_is_content) (defScope s__law_is_content) .none kV24 dc24 pm24 an24 cd24 ct24), sl24⟩) (c24 : PySem.W.codeIn K cd24 "_law_is_content" = true) (k24 : PySem.W.keepIn K (.ref f24) = true)
    {od25 an25 : Option Addr} {sl25 : Array (Option Value)} {oc25 kV25 dc25 pm25 cd25 ct25 : Value} {f25 : Addr}
    (a25 : PySem.W.nsIn K mainGlobals "_law_is_node" = some (some (.ref f25))) (l25 : K.lookup f25 = some ⟨oc25, od25, .func (PySem.W.fnOf "_law_is_node" "_law_is_node" (defArgs s__law_is_node) (defBody s__law_is_node) (defScope s__law_is_node) .none kV25 dc25 pm25 an25 cd25 ct25), sl25⟩) (c25 : PySem.W.codeIn K cd25 "_law_is_node" = true) (k25 : PySem.W.keepIn K (.ref f25) = true)
    {od26 an26 : Option Addr} {sl26 : Array (Option Value)} {oc26 kV26 dc26 pm26 cd26 ct26 : Value} {f26 : Addr}
    (a26 : PySem.W.nsIn K mainGlobals "_law_is_entry" = some (some (.ref f26))) (l26 : K.lookup f26 = some ⟨oc26, od26, .func (PySem.W.fnOf "_law_is_entry" "_law_is_entry" (defArgs s__law_is_entry) (defBody s__law_is_entry) (defScope s__law_is_entry) .none kV26 dc26 pm26 an26 cd26 ct26), sl26⟩) (c26 : PySem.W.codeIn K cd26 "_law_is_entry" = true) (k26 : PySem.W.keepIn K (.ref f26) = true)
    {od27 an27 : Option Addr} {sl27 : Array (Option Value)} {oc27 kV27 dc27 pm27 cd27 ct27 : Value} {f27 : Addr}
    (a27 : PySem.W.nsIn K mainGlobals "_law_entry" = some (some (.ref f27))) (l27 : K.lookup f27 = some ⟨oc27, od27, .func (PySem.W.fnOf "_law_entry" "_law_entry" (defArgs s__law_entry) (defBody s__law_entry) (defScope s__law_entry) .none kV27 dc27 pm27 an27 cd27 ct27), sl27⟩) (c27 : PySem.W.codeIn K cd27 "_law_entry" = true) (k27 : PySem.W.keepIn K (.ref f27) = true)
    {od28 an28 : Option Addr} {sl28 : Array (Option Value)} {oc28 kV28 dc28 pm28 cd28 ct28 : Value} {f28 : Addr}
    (a28 : PySem.W.nsIn K mainGlobals "_law_nested" = some (some (.ref f28))) (l28 : K.lookup f28 = some ⟨oc28, od28, .func (PySem.W.fnOf "_law_nested" "_law_nested" (defArgs s__law_nested) (defBody s__law_nested) (defScope s__law_nested) .none kV28 dc28 pm28 an28 cd28 ct28), sl28⟩) (c28 : PySem.W.codeIn K cd28 "_law_nested" = true) (k28 : PySem.W.keepIn K (.ref f28) = true)
    {od29 an29 : Option Addr} {sl29 : Array (Option Value)} {oc29 kV29 dc29 pm29 cd29 ct29 : Value} {f29 : Addr}
    (a29 : PySem.W.nsIn K mainGlobals "_law_thing" = some (some (.ref f29))) (l29 : K.lookup f29 = some ⟨oc29, od29, .func (PySem.W.fnOf "_law_thing" "_law_thing" (defArgs s__law_thing) (defBody s__law_thing) (defScope s__law_thing) .none kV29 dc29 pm29 an29 cd29 ct29), sl29⟩) (c29 : PySem.W.codeIn K cd29 "_law_thing" = true) (k29 : PySem.W.keepIn K (.ref f29) = true)
    {od30 an30 : Option Addr} {sl30 : Array (Option Value)} {oc30 kV30 dc30 pm30 cd30 ct30 : Value} {f30 : Addr}
    (a30 : PySem.W.nsIn K mainGlobals "law" = some (some (.ref f30))) (l30 : K.lookup f30 = some ⟨oc30, od30, .func (PySem.W.fnOf "law" "law" (defArgs s_law) (defBody s_law) (defScope s_law) .none kV30 dc30 pm30 an30 cd30 ct30), sl30⟩) (c30 : PySem.W.codeIn K cd30 "law" = true) (k30 : PySem.W.keepIn K (.ref f30) = true)
    {t_LETTERS : Tok} (z_LETTERS : PySem.W.nsIn K mainGlobals "LETTERS" = some (some (.str "abcdefghijklmnopqrstuvwxyz" t_LETTERS)))
    {t_MOST_CHARACTERS : Tok} (z_MOST_CHARACTERS : PySem.W.nsIn K mainGlobals "MOST_CHARACTERS" = some (some (.int 20 t_MOST_CHARACTERS)))
    {t_MOST_LETTERS : Tok} (z_MOST_LETTERS : PySem.W.nsIn K mainGlobals "MOST_LETTERS" = some (some (.int 8 t_MOST_LETTERS)))
    {t_MOST_PARTS : Tok} (z_MOST_PARTS : PySem.W.nsIn K mainGlobals "MOST_PARTS" = some (some (.int 3 t_MOST_PARTS)))
    {t_MOST_RIGHTS : Tok} (z_MOST_RIGHTS : PySem.W.nsIn K mainGlobals "MOST_RIGHTS" = some (some (.int 7 t_MOST_RIGHTS)))
    (z_abs : PySem.W.nsIn K mainGlobals "abs" = some none)
    (z_all : PySem.W.nsIn K mainGlobals "all" = some none)
    (z_bool : PySem.W.nsIn K mainGlobals "bool" = some none)
    (z_int : PySem.W.nsIn K mainGlobals "int" = some none)
    (z_isinstance : PySem.W.nsIn K mainGlobals "isinstance" = some none)
    (z_len : PySem.W.nsIn K mainGlobals "len" = some none)
    (z_list : PySem.W.nsIn K mainGlobals "list" = some none)
    (z_range : PySem.W.nsIn K mainGlobals "range" = some none)
    (z_repr : PySem.W.nsIn K mainGlobals "repr" = some none)
    (z_str : PySem.W.nsIn K mainGlobals "str" = some none)
    (z_tuple : PySem.W.nsIn K mainGlobals "tuple" = some none) :
    ∃ fd : FuncData, (∀ (s : Shared) (v : Value), BindsTo s fd ⟨[v], []⟩ [("_law_script", v)]) ∧ ∀ base : Heap, K.In base → base.Ns mainGlobals mg → FnG l.prog w K mg base CX0 151 fa fd ["_law_script"] (spL K) := by
  have e := hfa.symm.trans (PySem.W.mg_of X G a30)
  cases e
  let T : Tx K mg := { f_is_integer := f0, d_is_integer := _,  F_is_integer := fun_mk (st := s_is_integer) l0 c0 k0, b_is_integer := (fun_mk (st := s_is_integer) l0 c0 k0).binds (ps := ["thing"]) (fun _ _ _ _ _ _ us hl => match us, hl with | [_], _ => rfl), m_is_integer := PySem.W.mg_of X G a0, f_is_name := f1, d_is_name := _,  F_is_name := fun_mk (st := s_is_name) l1 c1 k1, b_is_name := (fun_mk (st := s_is_name) l1 c1 k1).binds (ps := ["thing"]) (fun _ _ _ _ _ _ us hl => match us, hl with | [_], _ => rfl), m_is_name := PySem.W.mg_of X G a1, f_is_path := f2, d_is_path := _,  F_is_path := fun_mk (st := s_is_path) l2 c2 k2, b_is_path := (fun_mk (st := s_is_path) l2 c2 k2).binds (ps := ["thing"]) (fun _ _ _ _ _ _ us hl => match us, hl with | [_], _ => rfl), m_is_path := PySem.W.mg_of X G a2, f_is_text := f3, d_is_text := _,  F_is_text := fun_mk (st := s_is_text) l3 c3 k3, b_is_text := (fun_mk (st := s_is_text) l3 c3 k3).binds (ps := ["thing"]) (fun _ _ _ _ _ _ us hl => match us, hl with | [_], _ => rfl), m_is_text := PySem.W.mg_of X G a3, f_is_content := f4, d_is_content := _,  F_is_content := fun_mk (st := s_is_content) l4 c4 k4, b_is_content := (fun_mk (st := s_is_content) l4 c4 k4).binds (ps := ["thing"]) (fun _ _ _ _ _ _ us hl => match us, hl with | [_], _ => rfl), m_is_content := PySem.W.mg_of X G a4, f_are_parts := f5, d_are_parts := _,  F_are_parts := fun_mk (st := s_are_parts) l5 c5 k5, b_are_parts := (fun_mk (st := s_are_parts) l5 c5 k5).binds (ps := ["thing"]) (fun _ _ _ _ _ _ us hl => match us, hl with | [_], _ => rfl), m_are_parts := PySem.W.mg_of X G a5, f_is_rights := f6, d_is_rights := _,  F_is_rights := fun_mk (st := s_is_rights) l6 c6 k6, b_is_rights := (fun_mk (st := s_is_rights) l6 c6 k6).binds (ps := ["thing"]) (fun _ _ _ _ _ _ us hl => match us, hl with | [_], _ => rfl), m_is_rights := PySem.W.mg_of X G a6, f_is_node := f7, d_is_node := _,  F_is_node := fun_mk (st := s_is_node) l7 c7 k7, b_is_node := (fun_mk (st := s_is_node) l7 c7 k7).binds (ps := ["thing"]) (fun _ _ _ _ _ _ us hl => match us, hl with | [_], _ => rfl), m_is_node := PySem.W.mg_of X G a7, f_is_entry := f8, d_is_entry := _,  F_is_entry := fun_mk (st := s_is_entry) l8 c8 k8, b_is_entry := (fun_mk (st := s_is_entry) l8 c8 k8).binds (ps := ["thing"]) (fun _ _ _ _ _ _ us hl => match us, hl with | [_], _ => rfl), m_is_entry := PySem.W.mg_of X G a8, f_is_tagged := f9, d_is_tagged := _,  F_is_tagged := fun_mk (st := s_is_tagged) l9 c9 k9, b_is_tagged := (fun_mk (st := s_is_tagged) l9 c9 k9).binds (ps := ["thing", "tag", "many"]) (fun _ _ _ _ _ _ us hl => match us, hl with | [_, _, _], _ => rfl), m_is_tagged := PySem.W.mg_of X G a9, f__law_bag := f10, d__law_bag := _,  F__law_bag := fun_mk (st := s__law_bag) l10 c10 k10, b__law_bag := (fun_mk (st := s__law_bag) l10 c10 k10).binds (ps := ["_law_script"]) (fun _ _ _ _ _ _ us hl => match us, hl with | [_], _ => rfl), m__law_bag := PySem.W.mg_of X G a10, f__law_take := f11, d__law_take := _,  F__law_take := fun_mk (st := s__law_take) l11 c11 k11, b__law_take := (fun_mk (st := s__law_take) l11 c11 k11).binds (ps := ["_law_bag_here", "_law_many"]) (fun _ _ _ _ _ _ us hl => match us, hl with | [_, _], _ => rfl), m__law_take := PySem.W.mg_of X G a11, f__law_alike := f12, d__law_alike := _,  F__law_alike := fun_mk (st := s__law_alike) l12 c12 k12, b__law_alike := (fun_mk (st := s__law_alike) l12 c12 k12).binds (ps := ["_law_found", "_law_due"]) (fun _ _ _ _ _ _ us hl => match us, hl with | [_, _], _ => rfl), m__law_alike := PySem.W.mg_of X G a12, f__law_names := f13, d__law_names := _,  F__law_names := fun_mk (st := s__law_names) l13 c13 k13, b__law_names := (fun_mk (st := s__law_names) l13 c13 k13).binds (ps := ["_law_bag_here", "_law_many"]) (fun _ _ _ _ _ _ us hl => match us, hl with | [_, _], _ => rfl), m__law_names := PySem.W.mg_of X G a13, f__law_text := f14, d__law_text := _,  F__law_text := fun_mk (st := s__law_text) l14 c14 k14, b__law_text := (fun_mk (st := s__law_text) l14 c14 k14).binds (ps := ["_law_bag_here"]) (fun _ _ _ _ _ _ us hl => match us, hl with | [_], _ => rfl), m__law_text := PySem.W.mg_of X G a14, f__law_content := f15, d__law_content := _,  F__law_content := fun_mk (st := s__law_content) l15 c15 k15, b__law_content := (fun_mk (st := s__law_content) l15 c15 k15).binds (ps := ["_law_bag_here", "_law_deep"]) (fun _ _ _ _ _ _ us hl => match us, hl with | [_, _], _ => rfl), m__law_content := PySem.W.mg_of X G a15, f__law_node := f16, d__law_node := _,  F__law_node := fun_mk (st := s__law_node) l16 c16 k16, b__law_node := (fun_mk (st := s__law_node) l16 c16 k16).binds (ps := ["_law_bag_here", "_law_deep"]) (fun _ _ _ _ _ _ us hl => match us, hl with | [_, _], _ => rfl), m__law_node := PySem.W.mg_of X G a16, f__law_odd := f17, d__law_odd := _,  F__law_odd := fun_mk (st := s__law_odd) l17 c17 k17, b__law_odd := (fun_mk (st := s__law_odd) l17 c17 k17).binds (ps := ["_law_bag_here"]) (fun _ _ _ _ _ _ us hl => match us, hl with | [_], _ => rfl), m__law_odd := PySem.W.mg_of X G a17, f__law_spoiled := f18, d__law_spoiled := _,  F__law_spoiled := fun_mk (st := s__law_spoiled) l18 c18 k18, b__law_spoiled := (fun_mk (st := s__law_spoiled) l18 c18 k18).binds (ps := ["_law_bag_here", "_law_thing_here"]) (fun _ _ _ _ _ _ us hl => match us, hl with | [_, _], _ => rfl), m__law_spoiled := PySem.W.mg_of X G a18, f__law_whole := f19, d__law_whole := _,  F__law_whole := fun_mk (st := s__law_whole) l19 c19 k19, b__law_whole := (fun_mk (st := s__law_whole) l19 c19 k19).binds (ps := ["_law_thing_here"]) (fun _ _ _ _ _ _ us hl => match us, hl with | [_], _ => rfl), m__law_whole := PySem.W.mg_of X G a19, f__law_is_name := f20, d__law_is_name := _,  F__law_is_name := fun_mk (st := s__law_is_name) l20 c20 k20, b__law_is_name := (fun_mk (st := s__law_is_name) l20 c20 k20).binds (ps := ["_law_thing_here"]) (fun _ _ _ _ _ _ us hl => match us, hl with | [_], _ => rfl), m__law_is_name := PySem.W.mg_of X G a20, f__law_is_path := f21, d__law_is_path := _,  F__law_is_path := fun_mk (st := s__law_is_path) l21 c21 k21, b__law_is_path := (fun_mk (st := s__law_is_path) l21 c21 k21).binds (ps := ["_law_thing_here"]) (fun _ _ _ _ _ _ us hl => match us, hl with | [_], _ => rfl), m__law_is_path := PySem.W.mg_of X G a21, f__law_is_text := f22, d__law_is_text := _,  F__law_is_text := fun_mk (st := s__law_is_text) l22 c22 k22, b__law_is_text := (fun_mk (st := s__law_is_text) l22 c22 k22).binds (ps := ["_law_thing_here"]) (fun _ _ _ _ _ _ us hl => match us, hl with | [_], _ => rfl), m__law_is_text := PySem.W.mg_of X G a22, f__law_is_rights := f23, d__law_is_rights := _,  F__law_is_rights := fun_mk (st := s__law_is_rights) l23 c23 k23, b__law_is_rights := (fun_mk (st := s__law_is_rights) l23 c23 k23).binds (ps := ["_law_thing_here"]) (fun _ _ _ _ _ _ us hl => match us, hl with | [_], _ => rfl), m__law_is_rights := PySem.W.mg_of X G a23, f__law_is_content := f24, d__law_is_content := _,  F__law_is_content := fun_mk (st := s__law_is_content) l24 c24 k24, b__law_is_content := (fun_mk (st := s__law_is_content) l24 c24 k24).binds (ps := ["_law_thing_here"]) (fun _ _ _ _ _ _ us hl => match us, hl with | [_], _ => rfl), m__law_is_content := PySem.W.mg_of X G a24, f__law_is_node := f25, d__law_is_node := _,  F__law_is_node := fun_mk (st := s__law_is_node) l25 c25 k25, b__law_is_node := (fun_mk (st := s__law_is_node) l25 c25 k25).binds (ps := ["_law_thing_here"]) (fun _ _ _ _ _ _ us hl => match us, hl with | [_], _ => rfl), m__law_is_node := PySem.W.mg_of X G a25, f__law_is_entry := f26, d__law_is_entry := _,  F__law_is_entry := fun_mk (st := s__law_is_entry) l26 c26 k26, b__law_is_entry := (fun_mk (st := s__law_is_entry) l26 c26 k26).binds (ps := ["_law_thing_here"]) (fun _ _ _ _ _ _ us hl => match us, hl with | [_], _ => rfl), m__law_is_entry := PySem.W.mg_of X G a26, f__law_entry := f27, d__law_entry := _,  F__law_entry := fun_mk (st := s__law_entry) l27 c27 k27, b__law_entry := (fun_mk (st := s__law_entry) l27 c27 k27).binds (ps := ["_law_bag_here"]) (fun _ _ _ _ _ _ us hl => match us, hl with | [_], _ => rfl), m__law_entry := PySem.W.mg_of X G a27, f__law_nested := f28, d__law_nested := _,  F__law_nested := fun_mk (st := s__law_nested) l28 c28 k28, b__law_nested := (fun_mk (st := s__law_nested) l28 c28 k28).binds (ps := ["_law_bag_here"]) (fun _ _ _ _ _ _ us hl => match us, hl with | [_], _ => rfl), m__law_nested := PySem.W.mg_of X G a28, f__law_thing := f29, d__law_thing := _,  F__law_thing := fun_mk (st := s__law_thing) l29 c29 k29, b__law_thing := (fun_mk (st := s__law_thing) l29 c29 k29).binds (ps := ["_law_bag_here", "_law_names_here"]) (fun _ _ _ _ _ _ us hl => match us, hl with | [_, _], _ => rfl), m__law_thing := PySem.W.mg_of X G a29, f_law := fa, d_law := _,  F_law := fun_mk (st := s_law) l30 c30 k30, b_law := (fun_mk (st := s_law) l30 c30 k30).binds (ps := ["_law_script"]) (fun _ _ _ _ _ _ us hl => match us, hl with | [_], _ => rfl), m_law := PySem.W.mg_of X G a30, c_LETTERS := ⟨_, PySem.W.mg_of X G z_LETTERS, ⟨_, rfl⟩⟩, c_MOST_CHARACTERS := ⟨_, PySem.W.mg_of X G z_MOST_CHARACTERS, ⟨_, rfl⟩⟩, c_MOST_LETTERS := ⟨_, PySem.W.mg_of X G z_MOST_LETTERS, ⟨_, rfl⟩⟩, c_MOST_PARTS := ⟨_, PySem.W.mg_of X G z_MOST_PARTS, ⟨_, rfl⟩⟩, c_MOST_RIGHTS := ⟨_, PySem.W.mg_of X G z_MOST_RIGHTS, ⟨_, rfl⟩⟩, z_abs := PySem.W.mg_none_of X G z_abs, z_all := PySem.W.mg_none_of X G z_all, z_bool := PySem.W.mg_none_of X G z_bool, z_int := PySem.W.mg_none_of X G z_int, z_isinstance := PySem.W.mg_none_of X G z_isinstance, z_len := PySem.W.mg_none_of X G z_len, z_list := PySem.W.mg_none_of X G z_list, z_range := PySem.W.mg_none_of X G z_range, z_repr := PySem.W.mg_none_of X G z_repr, z_str := PySem.W.mg_none_of X G z_str, z_tuple := PySem.W.mg_none_of X G z_tuple }
  refine ⟨T.d_law, fun s v => .of_eq rfl, fun base _ _ => ok_law T⟩
end K11
open PySem PySem.W PyProof.Rows in
set_option maxRecDepth 100000 in
set_option maxHeartbeats 0 in
theorem PySem.Challenge.cw_recipelayers_k11_kinds_holds : PySem.Challenge.rw_recipelayers_k11_kinds.Holds := by
  w_on; o_law; k_head; (case hw => w_witness2)
  k_fill
  refine DL.walkG (l := PySem.Challenge.rw_recipelayers_k11_kinds) (k := 151) (x := "_law_script") (by decide +kernel) rfl rfl ⟨rfl, by decide, by decide⟩ (fun w h Y => PySem.W.kIn_of Y) ?F
  case F =>
    intro w mg fa h KX G hmg
    refine' K11.all_mk KX G hmg ?a0 ?l0 ?c0 ?k0 ?a1 ?l1 ?c1 ?k1 ?a2 ?l2 ?c2 ?k2 ?a3 ?l3 ?c3 ?k3 ?a4 ?l4 ?c4 ?k4 ?a5 ?l5 ?c5 ?k5 ?a6 ?l6 ?c6 ?k6 ?a7 ?l7 ?c7 ?k7 ?a8 ?l8 ?c8 ?k8 ?a9 ?l9 ?c9 ?k9 ?a10 ?l10 ?c10 ?k10 ?a11 ?l11 ?c11 ?k11 ?a12 ?l12 ?c12 ?k12 ?a13 ?l13 ?c13 ?k13 ?a14 ?l14 ?c14 ?k14 ?a15 ?l15 ?c15 ?k15 ?a16 ?l16 ?c16 ?k16 ?a17 ?l17 ?c17 ?k17 ?a18 ?l18 ?c18 ?k18 ?a19 ?l19 ?c19 ?k19 ?a20 ?l20 ?c20 ?k20 ?a21 ?l21 ?c21 ?k21 ?a22 ?l22 ?c22 ?k22 ?a23 ?l23 ?c23 ?k23 ?a24 ?l24 ?c24 ?k24 ?a25 ?l25 ?c25 ?k25 ?a26 ?l26 ?c26 ?k26 ?a27 ?l27 ?c27 ?k27 ?a28 ?l28 ?c28 ?k28 ?a29 ?l29 ?c29 ?k29 ?a30 ?l30 ?c30 ?k30 ?z_LETTERS ?z_MOST_CHARACTERS ?z_MOST_LETTERS ?z_MOST_PARTS ?z_MOST_RIGHTS ?z_abs ?z_all ?z_bool ?z_int ?z_isinstance ?z_len ?z_list ?z_range ?z_repr ?z_str ?z_tuple
    (case a0 => k_is)
    (case l0 => k_is)
    (case c0 => k_is)
    (case k0 => k_is)
    (case a1 => k_is)
    (case l1 => k_is)
    (case c1 => k_is)
    (case k1 => k_is)
    (case a2 => k_is)
    (case l2 => k_is)
    (case c2 => k_is)
    (case k2 => k_is)
    (case a3 => k_is)
    (case l3 => k_is)
    (case c3 => k_is)
    (case k3 => k_is)
    (case a4 => k_is)
    (case l4 => k_is)
    (case c4 => k_is)
    (case k4 => k_is)
    (case a5 => k_is)
    (case l5 => k_is)
    (case c5 => k_is)
    (case k5 => k_is)
    (case a6 => k_is)
    (case l6 => k_is)
    (case c6 => k_is)
    (case k6 => k_is)
    (case a7 => k_is)
    (case l7 => k_is)
    (case c7 => k_is)
    (case k7 => k_is)
    (case a8 => k_is)
    (case l8 => k_is)
    (case c8 => k_is)
    (case k8 => k_is)
    (case a9 => k_is)
    (case l9 => k_is)
    (case c9 => k_is)
    (case k9 => k_is)
    (case a10 => k_is)
    (case l10 => k_is)
    (case c10 => k_is)
    (case k10 => k_is)
    (case a11 => k_is)
    (case l11 => k_is)
    (case c11 => k_is)
    (case k11 => k_is)
    (case a12 => k_is)
    (case l12 => k_is)
    (case c12 => k_is)
    (case k12 => k_is)
    (case a13 => k_is)
    (case l13 => k_is)
    (case c13 => k_is)
    (case k13 => k_is)
    (case a14 => k_is)
    (case l14 => k_is)
    (case c14 => k_is)
    (case k14 => k_is)
    (case a15 => k_is)
    (case l15 => k_is)
    (case c15 => k_is)
    (case k15 => k_is)
    (case a16 => k_is)
    (case l16 => k_is)
    (case c16 => k_is)
    (case k16 => k_is)
    (case a17 => k_is)
    (case l17 => k_is)
    (case c17 => k_is)
    (case k17 => k_is)
    (case a18 => k_is)
    (case l18 => k_is)
    (case c18 => k_is)
    (case k18 => k_is)
    (case a19 => k_is)
    (case l19 => k_is)
    (case c19 => k_is)
    (case k19 => k_is)
    (case a20 => k_is)
    (case l20 => k_is)
    (case c20 => k_is)
    (case k20 => k_is)
    (case a21 => k_is)
    (case l21 => k_is)
    (case c21 => k_is)
    (case k21 => k_is)
    (case a22 => k_is)
    (case l22 => k_is)
    (case c22 => k_is)
    (case k22 => k_is)
    (case a23 => k_is)
    (case l23 => k_is)
    (case c23 => k_is)
    (case k23 => k_is)
    (case a24 => k_is)
    (case l24 => k_is)
    (case c24 => k_is)
    (case k24 => k_is)
    (case a25 => k_is)
    (case l25 => k_is)
    (case c25 => k_is)
    (case k25 => k_is)
    (case a26 => k_is)
    (case l26 => k_is)
    (case c26 => k_is)
    (case k26 => k_is)
    (case a27 => k_is)
    (case l27 => k_is)
    (case c27 => k_is)
    (case k27 => k_is)
    (case a28 => k_is)
    (case l28 => k_is)
    (case c28 => k_is)
    (case k28 => k_is)
    (case a29 => k_is)
    (case l29 => k_is)
    (case c29 => k_is)
    (case k29 => k_is)
    (case a30 => k_is)
    (case l30 => k_is)
    (case c30 => k_is)
    (case k30 => k_is)
    (case z_LETTERS => k_is)
    (case z_MOST_CHARACTERS => k_is)
    (case z_MOST_LETTERS => k_is)
    (case z_MOST_PARTS => k_is)
    (case z_MOST_RIGHTS => k_is)
    (case z_abs => k_is)
    (case z_all => k_is)
    (case z_bool => k_is)
    (case z_int => k_is)
    (case z_isinstance => k_is)
    (case z_len => k_is)
    (case z_list => k_is)
    (case z_range => k_is)
    (case z_repr => k_is)
    (case z_str => k_is)
    (case z_tuple => k_is)
