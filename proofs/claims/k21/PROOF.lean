import PyProof.Rows.All
import Wide.All
import OpenK.AllK
import Wide.FinOn
import PyProof.StrLawsRepr
import HandS.ForMost
import HandS.More
import HandS.Style
import HandS.IsInst
import HandS.Deep
import HandS.EndBits
import HandS.Flow
import HandS.TupAny
import HandS.TupMul
import HandS.Small
import HandS.Wide
import HandS.Conv
import HandS.Zip
import HandS.Exc
import HandS.ExcInit
import HandS.ExcField
import HandS.ExcIs
import HandS.ExcOwn
import HandS.WordsExc
import HandS.TupSets
import KE.SortKeyHeap
import HandS.Iter
import HandS.Keys
import HandS.SortKw
import KE.KeyNested
import HandS.DictComp
import KE.DataMinKey
import KE.GoesMore
import KE.GoesEnum
import KE.GoesZip
import PySem.Challenge.RW_longsheet_k21_sheets_refused
set_option Elab.async false
set_option linter.all false
set_option maxRecDepth 100000
set_option maxHeartbeats 4000000
namespace DL
open PySem PySem.Spec L2

/-! ## runs: the need of a piece of syntax, said by the piece itself -/
def WE (X : Cx) (e : Expr) (σ : St) (H : Hp) (Q : VK) : Prop :=
  ∀ pins s, Inv X pins σ H s → wpAny (model X.prog X.w) X.A (eval e X.env) (EP X pins σ Q) X.xe s
def WT (X : Cx) (e : Expr) (σ : St) (H : Hp) (Q : Bool → Hp → Prop) : Prop :=
  ∀ pins s, Inv X pins σ H s → wpAny (model X.prog X.w) X.A (isTrue e X.env (eval e X.env)) (TP X pins σ Q) X.xe s
def WA (X : Cx) (es : List Expr) (σ : St) (H : Hp) (Q : List V → Hp → Prop) : Prop :=
  ∀ (pos : Pos) pins s, Inv X pins σ H s → wpAny (model X.prog X.w) X.A (spliced (backTo pos (starEach es X.env))) (AP X pins σ Q) X.xe s
def WS (X : Cx) (st : Stmt) (D : Ends) (σ : St) (H : Hp) : Prop :=
  ∀ pins s, Inv X pins σ H s → wpAny (model X.prog X.w) X.A (exec st X.env) (SP X pins D) X.xe s
def WB (X : Cx) (st : List Stmt) (D : Ends) (σ : St) (H : Hp) : Prop :=
  ∀ pins s, Inv X pins σ H s → wpAny (model X.prog X.w) X.A (execs st X.env) (SP X pins D) X.xe s
section
variable {X : Cx} {σ : St} {H : Hp}
theorem WE.pe (X : Cx) (e : Expr) : PE X e (WE X e) := ⟨fun pins s _ _ _ I h => h pins s I⟩
theorem WT.pt (X : Cx) (e : Expr) : PT X e (WT X e) := ⟨fun pins s _ _ _ I h => h pins s I⟩
theorem WA.pa (X : Cx) (es : List Expr) : PA X es (WA X es) := ⟨fun pos pins s _ _ _ I h => h pos pins s I⟩
theorem WS.ps (X : Cx) (st : Stmt) : PS X st (WS X st) := ⟨fun pins s _ _ _ I h => h pins s I⟩
theorem WB.pss (X : Cx) (st : List Stmt) : PSs X st (WB X st) := ⟨fun pins s _ _ _ I h => h pins s I⟩
theorem WE.of {e : Expr} {t : TE} (p : PE X e t) {Q : VK} (q : t σ H Q) : WE X e σ H Q := fun pins s I => p.run pins s σ H Q I q
theorem WT.of {e : Expr} {t : TT} (p : PT X e t) {Q : Bool → Hp → Prop} (q : t σ H Q) : WT X e σ H Q := fun pins s I => p.run pins s σ H Q I q
theorem WA.of {es : List Expr} {t : TA} (p : PA X es t) {Q : List V → Hp → Prop} (q : t σ H Q) : WA X es σ H Q := fun pos pins s I => p.run pos pins s σ H Q I q
theorem WS.of {st : Stmt} {t : TS} (p : PS X st t) {D : Ends} (q : t D σ H) : WS X st D σ H := fun pins s I => p.run pins s σ H D I q
theorem WB.of {st : List Stmt} {t : TS} (p : PSs X st t) {D : Ends} (q : t D σ H) : WB X st D σ H := fun pins s I => p.run pins s σ H D I q
end

/-! ## data that stands in the abstract heap -/
def keyD : Key → PyData
  | .inl i => .int i
  | .inr x => .str x
/-- a class whose instances are data -/
structure InsOk (K : PySem.W.Frag) (C : Addr) : Prop where
  cls : Cls K C
  cg : PySem.W.findIn K (.ref C) "__class__" = some (some (.builtin "object.__class__"))
  hn : PySem.W.specialIn K (.builtin "object.__class__") "__get__" = some (some (.builtin "getset_descriptor.__get__"))
  tk : PySem.W.takesIn K (.builtin "object.__class__") = some true
  ob : PySem.W.mroIn K C (.type "object") = some true
  kit : ∀ n ∈ (["int", "bool", "str", "list", "tuple", "dict"] : List String), PySem.W.kitOne K (.ref C) (.type n) = some false
/-- the mark of an instance: no key of a dict, and never shown -/
def insT : PyData := .int (2 ^ 2000)
def insD (C : Addr) (fs : List (PyData × PyData)) : PyData := .dict ((.none, insT) :: (.none, .int (Int.ofNat C)) :: fs)
mutual
inductive Rp (K : PySem.W.Frag) (H : Hp) : V → PyData → Prop
  | non : Rp K H .non .none
  | bl (b : Bool) : Rp K H (.bl b) (.bool b)
  | int (i : Int) : Rp K H (.int i) (.int i)
  | str (x : Str) : Rp K H (.str x) (.str x)
  | lst {a : Addr} {xs : List V} {ds : List PyData} : H a = some (.lst xs) → RpA K H xs ds → Rp K H (.ref a) (.list ds)
  | tup {a : Addr} {xs : List V} {ds : List PyData} : SqT K H a xs → RpA K H xs ds → Rp K H (.ref a) (.tuple ds)
  | dic {a : Addr} {kvs : List (Key × V)} {ds : List (PyData × PyData)} : H a = some (.dK kvs) → RpK K H kvs ds → Rp K H (.ref a) (.dict ds)
  | ins {a dx C : Addr} {fs : List (Str × V)} {ds : List (PyData × PyData)} : H a = some (.ins C dx fs) → InsOk K C → RpF K H fs ds → Rp K H (.ref a) (.dict ((.none, insT) :: (.none, .int (Int.ofNat C)) :: ds))
inductive RpF (K : PySem.W.Frag) (H : Hp) : List (Str × V) → List (PyData × PyData) → Prop
  | nil : RpF K H [] []
  | cons {f : Str} {v : V} {r : List (Str × V)} {d : PyData} {ds : List (PyData × PyData)} : Rp K H v d → RpF K H r ds → RpF K H ((f, v) :: r) ((.str f, d) :: ds)
inductive RpA (K : PySem.W.Frag) (H : Hp) : List V → List PyData → Prop
  | nil : RpA K H [] []
  | cons {v : V} {vs : List V} {d : PyData} {ds : List PyData} : Rp K H v d → RpA K H vs ds → RpA K H (v :: vs) (d :: ds)
inductive RpK (K : PySem.W.Frag) (H : Hp) : List (Key × V) → List (PyData × PyData) → Prop
  | nil : RpK K H [] []
  | cons {k : Key} {v : V} {r : List (Key × V)} {d : PyData} {ds : List (PyData × PyData)} : Rp K H v d → RpK K H r ds → RpK K H ((k, v) :: r) ((keyD k, d) :: ds)
end
theorem seqT {K : PySem.W.Frag} {H H' : Hp} (e : Same H H') {a : Addr} {xs : List V} (h : SqT K H a xs) : SqT K H' a xs := by
  rcases h with (h | ⟨o, h⟩) | h
  · exact .inl (.inl (e _ _ h))
  · exact .inl (.inr ⟨o, e _ _ h⟩)
  · exact .inr h
mutual
theorem Rp.mono {K : PySem.W.Frag} {H H' : Hp} (e : Same H H') : ∀ {v : V} {d : PyData}, Rp K H v d → Rp K H' v d
  | _, _, .non => .non
  | _, _, .bl b => .bl b
  | _, _, .int i => .int i
  | _, _, .str x => .str x
  | _, _, .lst h r => .lst (e _ _ h) (RpA.mono e r)
  | _, _, .tup h r => .tup (seqT e h) (RpA.mono e r)
  | _, _, .dic h r => .dic (e _ _ h) (RpK.mono e r)
  | _, _, .ins h k r => .ins (e _ _ h) k (RpF.mono e r)
theorem RpF.mono {K : PySem.W.Frag} {H H' : Hp} (e : Same H H') : ∀ {v : List (Str × V)} {d : List (PyData × PyData)}, RpF K H v d → RpF K H' v d
  | _, _, .nil => .nil
  | _, _, .cons h r => .cons (Rp.mono e h) (RpF.mono e r)
theorem RpA.mono {K : PySem.W.Frag} {H H' : Hp} (e : Same H H') : ∀ {v : List V} {d : List PyData}, RpA K H v d → RpA K H' v d
  | _, _, .nil => .nil
  | _, _, .cons h r => .cons (Rp.mono e h) (RpA.mono e r)
theorem RpK.mono {K : PySem.W.Frag} {H H' : Hp} (e : Same H H') : ∀ {v : List (Key × V)} {d : List (PyData × PyData)}, RpK K H v d → RpK K H' v d
  | _, _, .nil => .nil
  | _, _, .cons h r => .cons (Rp.mono e h) (RpK.mono e r)
end
section
variable {K : PySem.W.Frag} {H : Hp}
theorem RpA.len : ∀ {vs : List V} {ds : List PyData}, RpA K H vs ds → vs.length = ds.length
  | _, _, .nil => rfl
  | _, _, .cons _ r => by simp [RpA.len r]
theorem RpA.get : ∀ {vs : List V} {ds : List PyData} {i : Nat} {d : PyData}, RpA K H vs ds → ds[i]? = some d → ∃ v, vs[i]? = some v ∧ Rp K H v d
  | _, _, _, _, .nil, e => by simp at e
  | _, _, 0, _, .cons h _, e => by simp at e; subst e; exact ⟨_, rfl, h⟩
  | _, _, i + 1, d, .cons _ r, e => by
    obtain ⟨v, h1, h2⟩ := RpA.get (i := i) (d := d) r (by simpa using e)
    exact ⟨v, by simpa using h1, h2⟩
theorem RpA.get' : ∀ {vs : List V} {ds : List PyData} {i : Nat} {v : V}, RpA K H vs ds → vs[i]? = some v → ∃ d, ds[i]? = some d ∧ Rp K H v d
  | _, _, _, _, .nil, e => by simp at e
  | _, _, 0, _, .cons h _, e => by simp at e; subst e; exact ⟨_, rfl, h⟩
  | _, _, i + 1, d, .cons _ r, e => by
    obtain ⟨v, h1, h2⟩ := RpA.get' (i := i) (v := d) r (by simpa using e)
    exact ⟨v, by simpa using h1, h2⟩
theorem RpA.append : ∀ {a b : List V} {c d : List PyData}, RpA K H a c → RpA K H b d → RpA K H (a ++ b) (c ++ d)
  | _, _, _, _, .nil, s => s
  | _, _, _, _, .cons h r, s => .cons h (RpA.append r s)
theorem RpA.take : ∀ {a : List V} {c : List PyData} (n : Nat), RpA K H a c → RpA K H (a.take n) (c.take n)
  | _, _, 0, _ => .nil
  | _, _, _ + 1, .nil => .nil
  | _, _, n + 1, .cons h r => .cons h (RpA.take n r)
theorem RpA.drop : ∀ {a : List V} {c : List PyData} (n : Nat), RpA K H a c → RpA K H (a.drop n) (c.drop n)
  | _, _, 0, r => r
  | _, _, _ + 1, .nil => .nil
  | _, _, n + 1, .cons _ r => RpA.drop n r
theorem RpA.set {v : V} {d : PyData} (h : Rp K H v d) : ∀ {a : List V} {c : List PyData} (n : Nat), RpA K H a c → RpA K H (a.set n v) (c.set n d)
  | _, _, _, .nil => .nil
  | _, _, 0, .cons _ r => .cons h r
  | _, _, n + 1, .cons q r => .cons q (RpA.set h n r)
theorem RpA.ints : ∀ (ns : List Int), RpA K H (ns.map V.int) (ns.map PyData.int)
  | [] => .nil
  | n :: ns => .cons (.int n) (RpA.ints ns)
/-- data without dicts, for the library's == -/
theorem dp_of : ∀ {v : V} {d : PyData}, d.canLay0 = true → Rp K H v d → Dp K H v d := by
  intro v d
  have go : ∀ n, (∀ d : PyData, sizeOf d < n → ∀ v, d.canLay0 = true → Rp K H v d → Dp K H v d) ∧ (∀ ds : List PyData, sizeOf ds < n → ∀ vs, PyData.canLayAll0 ds = true → RpA K H vs ds → DpAll K H vs ds) := by
    intro n
    induction n with
    | zero => exact ⟨fun d h => by omega, fun d h => by omega⟩
    | succ n ih =>
      refine ⟨fun d h v hc r => ?_, fun ds h vs hc r => ?_⟩
      · cases r with
        | non => exact .non
        | bl b => exact .bl b
        | int i => exact .int i
        | str x => exact .str x
        | lst hs ha => exact .lst (SqL.of hs) (ih.2 _ (by simp at h; omega) _ (by simpa [PyData.canLay0] using hc) ha)
        | tup hs ha => exact .tup hs (ih.2 _ (by simp at h; omega) _ (by simpa [PyData.canLay0] using hc) ha)
        | dic _ _ => exact absurd hc (by simp [PyData.canLay0])
        | ins _ _ _ => exact absurd hc (by simp [PyData.canLay0])
      · cases r with
        | nil => exact .nil
        | @cons v1 vs1 d1 ds1 h1 h2 =>
          have hc' : PyData.canLay0 d1 = true ∧ PyData.canLayAll0 ds1 = true := by simpa [PyData.canLayAll0] using hc
          exact .cons (ih.1 _ (by simp at h; omega) _ hc'.1 h1) (ih.2 _ (by simp at h; omega) _ hc'.2 h2)
  exact fun hc r => (go _).1 d (Nat.lt_succ_self _) v hc r
end

/-! ## what is owned: objects that the code at hand may change; all else is data -/
def hid (O : List Addr) (H : Hp) : Hp := fun a => if a ∈ O then none else H a
theorem hid_in {O : List Addr} {H : Hp} {a : Addr} (h : a ∈ O) : hid O H a = none := if_pos h
theorem hid_out {O : List Addr} {H : Hp} {a : Addr} (h : a ∉ O) : hid O H a = H a := if_neg h
theorem hid_some {O : List Addr} {H : Hp} {a : Addr} {o : HO} (h : hid O H a = some o) : a ∉ O ∧ H a = some o := by
  by_cases q : a ∈ O
  · rw [hid_in q] at h; cases h
  · rw [hid_out q] at h; exact ⟨q, h⟩
structure OwnP where
  ok : PySem.W.Frag → Hp → HO → Prop
  mono : ∀ K H H' o, Same H H' → ok K H o → ok K H' o
abbrev Ow := List (Addr × OwnP)
abbrev dom (ω : Ow) : List Addr := ω.map (·.1)
inductive Cell where
  | raw (v : V)
  | dat (d : PyData)
  | scr (ns : List Int)
abbrev Env := List (Option Cell)
def CellOk (K : PySem.W.Frag) (O : List Addr) (H : Hp) (v : V) : Cell → Prop
  | .raw w => v = w
  | .dat d => Rp K (hid O H) v d
  | .scr ns => ∃ a, v = .ref a ∧ SqL K (hid O H) a (ns.map V.int)
abbrev Kp (O : List Addr) (H : Hp) (O' : List Addr) (H' : Hp) : Prop := Same (hid O H) (hid O' H')
theorem CellOk.mono {K : PySem.W.Frag} {O O' : List Addr} {H H' : Hp} (e : Kp O H O' H') {v : V} : ∀ {c : Cell}, CellOk K O H v c → CellOk K O' H' v c
  | .raw _, h => h
  | .dat _, h => Rp.mono e h
  | .scr _, ⟨a, h1, h2⟩ => ⟨a, h1, Same.seq e h2⟩
def EnvOk (K : PySem.W.Frag) (O : List Addr) (H : Hp) : St → Env → Prop
  | [], [] => True
  | sv :: σ, c :: δ => (∀ x, c = some x → ∃ v, sv = some v ∧ CellOk K O H v x) ∧ EnvOk K O H σ δ
  | _, _ => False
section
variable {K : PySem.W.Frag} {O O' : List Addr} {H H' : Hp}
theorem EnvOk.mono (e : Kp O H O' H') : ∀ {σ : St} {δ : Env}, EnvOk K O H σ δ → EnvOk K O' H' σ δ
  | [], [], _ => trivial
  | _ :: _, _ :: _, ⟨h, r⟩ => ⟨fun x q => let ⟨v, h1, h2⟩ := h x q; ⟨v, h1, h2.mono e⟩, EnvOk.mono e r⟩
  | [], _ :: _, h => h.elim
  | _ :: _, [], h => h.elim
theorem EnvOk.get : ∀ {σ : St} {δ : Env} {i : Nat} {c : Cell}, EnvOk K O H σ δ → δ[i]? = some (some c) → ∃ v, σ[i]? = some (some v) ∧ CellOk K O H v c
  | [], [], _, _, _, q => by simp at q
  | sv :: _, c :: _, 0, x, ⟨h, _⟩, q => by
    obtain ⟨v, h1, h2⟩ := h x (by simpa using q)
    exact ⟨v, by simp [h1], h2⟩
  | _ :: _, _ :: _, i + 1, x, ⟨_, r⟩, q => by
    obtain ⟨v, h1, h2⟩ := EnvOk.get (i := i) (c := x) r (by simpa using q)
    exact ⟨v, by simpa using h1, h2⟩
  | [], _ :: _, _, _, h, _ => h.elim
  | _ :: _, [], _, _, h, _ => h.elim
theorem EnvOk.set {v : V} {c : Cell} (hc : CellOk K O H v c) : ∀ {σ : St} {δ : Env} (i : Nat), EnvOk K O H σ δ → EnvOk K O H (σ.set i (some v)) (δ.set i (some c))
  | [], [], _, _ => trivial
  | _ :: _, _ :: _, 0, ⟨_, r⟩ => ⟨fun x q => by cases q; exact ⟨v, rfl, hc⟩, r⟩
  | _ :: _, _ :: _, i + 1, ⟨h, r⟩ => ⟨h, EnvOk.set hc i r⟩
  | [], _ :: _, _, h => h.elim
  | _ :: _, [], _, h => h.elim
/-- a slot that is forgotten -/
theorem EnvOk.forget : ∀ {σ : St} {δ : Env} (i : Nat), EnvOk K O H σ δ → EnvOk K O H σ (δ.set i none)
  | [], [], _, _ => trivial
  | _ :: _, _ :: _, 0, ⟨_, r⟩ => ⟨fun x q => (nomatch q), r⟩
  | _ :: _, _ :: _, i + 1, ⟨h, r⟩ => ⟨h, EnvOk.forget i r⟩
  | [], _ :: _, _, h => h.elim
  | _ :: _, [], _, h => h.elim
theorem EnvOk.length : ∀ {σ : St} {δ : Env}, EnvOk K O H σ δ → σ.length = δ.length
  | [], [], _ => rfl
  | _ :: _, _ :: _, ⟨_, r⟩ => by simp [EnvOk.length r]
  | [], _ :: _, h => h.elim
  | _ :: _, [], h => h.elim
end
structure OwnOk (K : PySem.W.Frag) (ω : Ow) (H : Hp) : Prop where
  nd : (dom ω).Nodup
  at_ : ∀ p P, (p, P) ∈ ω → ∃ o, H p = some o ∧ P.ok K (hid (dom ω) H) o
structure StOk (K : PySem.W.Frag) (ω : Ow) (δ : Env) (σ : St) (H : Hp) : Prop where
  env : EnvOk K (dom ω) H σ δ
  own : OwnOk K ω H
section
variable {K : PySem.W.Frag} {ω : Ow} {δ : Env} {σ : St} {H : Hp} {p : Addr} {o : HO}
theorem OwnOk.notin (h : OwnOk K ω H) (hp : H p = none) : p ∉ dom ω := fun q => by
  obtain ⟨⟨a, P⟩, h1, rfl⟩ := List.mem_map.mp q
  obtain ⟨u, h2, _⟩ := h.at_ a P h1
  rw [hp] at h2; cases h2
theorem kp_new (h : OwnOk K ω H) (hp : H p = none) : Kp (dom ω) H (dom ω) (upd H p o) := fun b u q => by
  obtain ⟨h1, h2⟩ := hid_some q
  rw [hid_out h1, upd_ne (ne_of_none h2 hp)]
  exact h2
theorem OwnOk.new (h : OwnOk K ω H) (hp : H p = none) : OwnOk K ω (upd H p o) := ⟨h.nd, fun a P q => by
  obtain ⟨u, h1, h2⟩ := h.at_ a P q
  exact ⟨u, by rw [upd_ne (ne_of_none h1 hp)]; exact h1, P.mono _ _ _ _ (kp_new h hp) h2⟩⟩
theorem StOk.new (h : StOk K ω δ σ H) (hp : H p = none) : StOk K ω δ σ (upd H p o) := ⟨h.env.mono (kp_new h.own hp), h.own.new hp⟩
theorem StOk.get {i : Nat} {c : Cell} (h : StOk K ω δ σ H) (q : δ[i]? = some (some c)) : ∃ v, σ[i]? = some (some v) ∧ CellOk K (dom ω) H v c := h.env.get q
theorem Kp.refl (O : List Addr) (H : Hp) : Kp O H O H := Same.refl _
theorem Kp.trans {O O1 O2 : List Addr} {H H1 H2 : Hp} (a : Kp O H O1 H1) (b : Kp O1 H1 O2 H2) : Kp O H O2 H2 := Same.trans a b
/-- a new object is data -/
theorem new_tup {xs : List V} {ds : List PyData} (h : OwnOk K ω H) (hp : H p = none) (r : RpA K (hid (dom ω) H) xs ds) : Rp K (hid (dom ω) (upd H p (.tup xs))) (.ref p) (.tuple ds) :=
  .tup (.inl (.inl (by rw [hid_out (h.notin hp), upd_same]))) (r.mono (kp_new h hp))
theorem new_lst {xs : List V} {ds : List PyData} (h : OwnOk K ω H) (hp : H p = none) (r : RpA K (hid (dom ω) H) xs ds) : Rp K (hid (dom ω) (upd H p (.lst xs))) (.ref p) (.list ds) :=
  .lst (by rw [hid_out (h.notin hp), upd_same]) (r.mono (kp_new h hp))
theorem rd_hid {O : List Addr} {a : Addr} {u : HO} (h : Rd (hid O H) a u) : Rd H a u := by
  rcases h with h | ⟨o, h⟩
  · exact .inl (hid_some h).2
  · exact .inr ⟨o, (hid_some h).2⟩
theorem sql_hid {O : List Addr} {a : Addr} {xs : List V} (h : SqL K (hid O H) a xs) : SqL K H a xs := by
  rcases h with h | h
  · exact .inl (rd_hid h)
  · exact .inr h
theorem sqt_hid {O : List Addr} {a : Addr} {xs : List V} (h : SqT K (hid O H) a xs) : SqT K H a xs := by
  rcases h with h | h
  · exact .inl (rd_hid h)
  · exact .inr h
end
theorem hid_same {O : List Addr} {H : Hp} : Same (hid O H) H := fun _ _ q => (hid_some q).2

/-! ## the judgements over data -/
/-- e gives a cell c, behind which ω' is owned, such that Φ ω' c -/
def N (X : Cx) (ω : Ow) (δ : Env) (e : Expr) (Φ : Ow → Cell → Prop) : Prop :=
  ∀ σ H Q, StOk X.K ω δ σ H → (∀ ω' c v H', Φ ω' c → StOk X.K ω' δ σ H' → Kp (dom ω) H (dom ω') H' → CellOk X.K (dom ω') H' v c → Q v H') → WE X e σ H Q
def NT (X : Cx) (ω : Ow) (δ : Env) (e : Expr) (Φ : Ow → Bool → Prop) : Prop :=
  ∀ σ H Q, StOk X.K ω δ σ H → (∀ ω' b H', Φ ω' b → StOk X.K ω' δ σ H' → Kp (dom ω) H (dom ω') H' → Q b H') → WT X e σ H Q
inductive Cells (K : PySem.W.Frag) (O : List Addr) (H : Hp) : List V → List Cell → Prop
  | nil : Cells K O H [] []
  | cons {v : V} {c : Cell} {vs : List V} {cs : List Cell} : CellOk K O H v c → Cells K O H vs cs → Cells K O H (v :: vs) (c :: cs)
theorem Cells.mono {K : PySem.W.Frag} {O O' : List Addr} {H H' : Hp} (e : Kp O H O' H') : ∀ {vs : List V} {cs : List Cell}, Cells K O H vs cs → Cells K O' H' vs cs
  | _, _, .nil => .nil
  | _, _, .cons h r => .cons (h.mono e) (Cells.mono e r)
def NA (X : Cx) (ω : Ow) (δ : Env) (es : List Expr) (Φ : Ow → List Cell → Prop) : Prop :=
  ∀ σ H Q, StOk X.K ω δ σ H → (∀ ω' cs vs H', Φ ω' cs → StOk X.K ω' δ σ H' → Kp (dom ω) H (dom ω') H' → Cells X.K (dom ω') H' vs cs → Q vs H') → WA X es σ H Q
/-- what a block may end with -/
structure En where
  nx : Ow → Env → Prop
  rt : Ow → Cell → Prop
  bk : Ow → Env → Prop := fun _ _ => False
  ct : Ow → Env → Prop := fun _ _ => False
structure Fits (K : PySem.W.Frag) (ω : Ow) (H : Hp) (E : En) (D : Ends) : Prop where
  nx : ∀ ω' δ' σ' H', E.nx ω' δ' → StOk K ω' δ' σ' H' → Kp (dom ω) H (dom ω') H' → D.nx σ' H'
  rt : ∀ ω' c v H', E.rt ω' c → OwnOk K ω' H' → Kp (dom ω) H (dom ω') H' → CellOk K (dom ω') H' v c → D.rt v H'
  bk : ∀ ω' δ' σ' H', E.bk ω' δ' → StOk K ω' δ' σ' H' → Kp (dom ω) H (dom ω') H' → D.bk σ' H'
  ct : ∀ ω' δ' σ' H', E.ct ω' δ' → StOk K ω' δ' σ' H' → Kp (dom ω) H (dom ω') H' → D.ct σ' H'
theorem Fits.after {K : PySem.W.Frag} {ω ω1 : Ow} {H H1 : Hp} {E : En} {D : Ends} (f : Fits K ω H E D) (k : Kp (dom ω) H (dom ω1) H1) : Fits K ω1 H1 E D :=
  ⟨fun a b c d e g q => f.nx a b c d e g (k.trans q), fun a b c d e g q => f.rt a b c d e g (k.trans q), fun a b c d e g q => f.bk a b c d e g (k.trans q), fun a b c d e g q => f.ct a b c d e g (k.trans q)⟩
def S (X : Cx) (ω : Ow) (δ : Env) (st : Stmt) (E : En) : Prop := ∀ σ H D, StOk X.K ω δ σ H → Fits X.K ω H E D → WS X st D σ H
def B (X : Cx) (ω : Ow) (δ : Env) (st : List Stmt) (E : En) : Prop := ∀ σ H D, StOk X.K ω δ σ H → Fits X.K ω H E D → WB X st D σ H

section
variable {X : Cx} {ω : Ow} {δ : Env} {e a b : Expr} {es : List Expr} {Φ : Ow → Cell → Prop} {pos : Pos}
theorem N.imp {Φ' : Ow → Cell → Prop} (h : N X ω δ e Φ) (k : ∀ ω' c, Φ ω' c → Φ' ω' c) : N X ω δ e Φ' := fun σ H Q s q => h σ H Q s fun ω' c v H' f => q ω' c v H' (k _ _ f)
theorem NT.imp {Φ Φ' : Ow → Bool → Prop} (h : NT X ω δ e Φ) (k : ∀ ω' c, Φ ω' c → Φ' ω' c) : NT X ω δ e Φ' := fun σ H Q s q => h σ H Q s fun ω' c H' f => q ω' c H' (k _ _ f)
/-- an expression by the layer's own rule, where it changes nothing and gives what a cell says -/
theorem n_lift {t : TE} (p : PE X e t) (h : ∀ σ H Q, StOk X.K ω δ σ H → (∀ ω' c v H', Φ ω' c → StOk X.K ω' δ σ H' → Kp (dom ω) H (dom ω') H' → CellOk X.K (dom ω') H' v c → Q v H') → t σ H Q) : N X ω δ e Φ :=
  fun σ H Q s q => WE.of p (h σ H Q s q)
theorem n_var (i : Nat) {x : Str} {c : Cell} (h : Φ ω c) (hd : δ[i]? = some (some c) := by rfl) (hN : X.N[i]? = some x := by rfl) (hv : Vis X.env.scope x := by first | exact Or.inl rfl | exact Or.inr (Or.inl rfl) | exact Or.inr (Or.inr rfl))
    (hg : (x == ("__debug__" : Str)) = false := by decide) (hcd : (x == ("__classdict__" : Str)) = false := by decide) : N X ω δ (.Name x pos) Φ :=
  n_lift (pe_var hN hv hg hcd) fun σ H Q s q => by
    obtain ⟨v, h1, h2⟩ := s.get hd
    exact ⟨v, h1, q ω c v H h s (Kp.refl _ _) h2⟩
theorem n_int {i : Int} {j} (h : Φ ω (.dat (.int i))) : N X ω δ (.Constant (.int i) j pos) Φ := n_lift pe_int fun σ H Q s q => q ω _ _ H h s (Kp.refl _ _) (Rp.int i)
theorem n_bl {i : Bool} {j} (h : Φ ω (.dat (.bool i))) : N X ω δ (.Constant (.bool i) j pos) Φ := n_lift pe_bl fun σ H Q s q => q ω _ _ H h s (Kp.refl _ _) (Rp.bl i)
theorem n_str {i : Str} {j} (h : Φ ω (.dat (.str i))) : N X ω δ (.Constant (.str i) j pos) Φ := n_lift pe_str fun σ H Q s q => q ω _ _ H h s (Kp.refl _ _) (Rp.str i)
theorem n_non {j} (h : Φ ω (.dat .none)) : N X ω δ (.Constant .none j pos) Φ := n_lift pe_non fun σ H Q s q => q ω _ _ H h s (Kp.refl _ _) Rp.non
/-- what an operation on two values asks, over cells -/
def Op2 (X : Cx) (r : R2) (ω : Ow) (δ : Env) (c1 c2 : Cell) (Φ : Ow → Cell → Prop) : Prop :=
  ∀ x y σ H Q, StOk X.K ω δ σ H → CellOk X.K (dom ω) H x c1 → CellOk X.K (dom ω) H y c2 → (∀ ω' c v H', Φ ω' c → StOk X.K ω' δ σ H' → Kp (dom ω) H (dom ω') H' → CellOk X.K (dom ω') H' v c → Q v H') → r x y H Q
theorem n_op2 {r : R2} {e : Expr} (p : PE X e (tOp r (WE X a) (WE X b))) (h : N X ω δ a fun ω1 c1 => N X ω1 δ b fun ω2 c2 => Op2 X r ω2 δ c1 c2 Φ) : N X ω δ e Φ :=
  n_lift p fun σ H Q s q => h σ H _ s fun ω1 c1 v1 H1 f1 s1 k1 o1 => f1 σ H1 _ s1 fun ω2 c2 v2 H2 f2 s2 k2 o2 =>
    f2 v1 v2 σ H2 Q s2 (o1.mono k2) o2 fun ω3 c3 v3 H3 f3 s3 k3 o3 => q ω3 c3 v3 H3 f3 s3 (k1.trans (k2.trans k3)) o3
def Op1 (X : Cx) (r : V → Hp → VK → Prop) (ω : Ow) (δ : Env) (c1 : Cell) (Φ : Ow → Cell → Prop) : Prop :=
  ∀ x σ H Q, StOk X.K ω δ σ H → CellOk X.K (dom ω) H x c1 → (∀ ω' c v H', Φ ω' c → StOk X.K ω' δ σ H' → Kp (dom ω) H (dom ω') H' → CellOk X.K (dom ω') H' v c → Q v H') → r x H Q
theorem n_op1 {r : V → Hp → VK → Prop} {e : Expr} (p : PE X e (tUn r (WE X a))) (h : N X ω δ a fun ω1 c1 => Op1 X r ω1 δ c1 Φ) : N X ω δ e Φ :=
  n_lift p fun σ H Q s q => h σ H _ s fun ω1 c1 v1 H1 f1 s1 k1 o1 => f1 v1 σ H1 Q s1 o1 fun ω3 c3 v3 H3 f3 s3 k3 o3 => q ω3 c3 v3 H3 f3 s3 (k1.trans k3) o3
end
end DL

namespace DL
open PySem PySem.Spec L2
section
variable {X : Cx} {ω : Ow} {δ : Env} {e a b c : Expr} {rest es : List Expr} {Φ : Ow → Cell → Prop} {pos : Pos}
/-! ## tests, and, or, not -/
theorem n_ifx {ΦT : Ow → Bool → Prop} (h : NT X ω δ c fun ω1 k => if k = true then N X ω1 δ a Φ else N X ω1 δ b Φ) : N X ω δ (.IfExp c a b pos) Φ :=
  n_lift (pe_ifExp (WT.pt X c) (WE.pe X a) (WE.pe X b)) fun σ H Q s q => h σ H _ s fun ω1 k H1 f1 s1 k1 => by
    cases k with
    | true => exact f1 σ H1 Q s1 fun ω2 c v H2 f2 s2 k2 o2 => q ω2 c v H2 f2 s2 (k1.trans k2) o2
    | false => exact f1 σ H1 Q s1 fun ω2 c v H2 f2 s2 k2 o2 => q ω2 c v H2 f2 s2 (k1.trans k2) o2
def isB (ω : Ow) (Φ : Ow → Bool → Prop) (c : Cell) : Prop := ∃ k, c = .dat (.bool k) ∧ Φ ω k
theorem isB.mk {Φ : Ow → Bool → Prop} {k : Bool} (h : Φ ω k) : isB ω Φ (.dat (.bool k)) := ⟨k, rfl, h⟩
theorem bool_of {K : PySem.W.Frag} {O : List Addr} {H : Hp} {v : V} {k : Bool} (h : CellOk K O H v (.dat (.bool k))) : v = .bl k := by cases h; rfl
theorem int_of {K : PySem.W.Frag} {O : List Addr} {H : Hp} {v : V} {k : Int} (h : CellOk K O H v (.dat (.int k))) : v = .int k := by cases h; rfl
theorem str_of {K : PySem.W.Frag} {O : List Addr} {H : Hp} {v : V} {k : Str} (h : CellOk K O H v (.dat (.str k))) : v = .str k := by cases h; rfl
theorem non_of {K : PySem.W.Frag} {O : List Addr} {H : Hp} {v : V} (h : CellOk K O H v (.dat .none)) : v = .non := by cases h; rfl
/-- a value that is a bool, as a test -/
theorem nt_val {Φ : Ow → Bool → Prop} (h : N X ω δ e fun ω1 c => isB ω1 Φ c) (he : ∀ whole, isTrue e X.env whole = (do let v ← whole; standAt e.pos; holding [v] (truthy v)) := by intro _; rfl) : NT X ω δ e Φ := fun σ H Q s q =>
  WT.of (pt_val (WE.pe X e) he) (h σ H _ s fun ω1 c v H1 ⟨k, e1, f1⟩ s1 k1 o1 => by
    subst e1
    cases bool_of o1
    exact ⟨k, rfl, q ω1 k H1 f1 s1 k1⟩)
def WW (X : Cx) (e : Expr) (σ : St) (H : Hp) (Q : Bool → Hp → Prop) : Prop :=
  ∀ (whole : Sem Value) pins s, Inv X pins σ H s → wpAny (model X.prog X.w) X.A (isTrue e X.env whole) (TP X pins σ Q) X.xe s
theorem WW.pw (X : Cx) (e : Expr) : PW X e (WW X e) := ⟨fun wh pins s _ _ _ I h => h wh pins s I⟩
theorem WW.of {σ : St} {H : Hp} {t : TT} (p : PW X e t) {Q : Bool → Hp → Prop} (q : t σ H Q) : WW X e σ H Q := fun wh pins s I => p.run wh pins s σ H Q I q
def NW (X : Cx) (ω : Ow) (δ : Env) (e : Expr) (Φ : Ow → Bool → Prop) : Prop :=
  ∀ σ H Q, StOk X.K ω δ σ H → (∀ ω' b H', Φ ω' b → StOk X.K ω' δ σ H' → Kp (dom ω) H (dom ω') H' → Q b H') → WW X e σ H Q
theorem nt_w {Φ : Ow → Bool → Prop} (h : NW X ω δ e Φ) : NT X ω δ e Φ := fun σ H Q s q => WT.of (WW.pw X e).pt (h σ H Q s q)
theorem nw_and1 {Φ : Ow → Bool → Prop} (h : NT X ω δ a Φ) : NW X ω δ (.BoolOp .And [a] pos) Φ := fun σ H Q s q => WW.of (pw_and1 (WT.pt X a)) (h σ H Q s q)
theorem nw_or1 {Φ : Ow → Bool → Prop} (h : NT X ω δ a Φ) : NW X ω δ (.BoolOp .Or [a] pos) Φ := fun σ H Q s q => WW.of (pw_or1 (WT.pt X a)) (h σ H Q s q)
theorem nw_and {Φ : Ow → Bool → Prop} (h : NT X ω δ a fun ω1 k => if k = true then NW X ω1 δ (.BoolOp .And (b :: rest) pos) Φ else Φ ω1 false) : NW X ω δ (.BoolOp .And (a :: b :: rest) pos) Φ := fun σ H Q s q =>
  WW.of (pw_and (WT.pt X a) (WW.pw X _)) (h σ H _ s fun ω1 k H1 f1 s1 k1 => by
    cases k with
    | true => exact f1 σ H1 Q s1 fun ω2 c H2 f2 s2 k2 => q ω2 c H2 f2 s2 (k1.trans k2)
    | false => exact q ω1 false H1 f1 s1 k1)
theorem nw_or {Φ : Ow → Bool → Prop} (h : NT X ω δ a fun ω1 k => if k = true then Φ ω1 true else NW X ω1 δ (.BoolOp .Or (b :: rest) pos) Φ) : NW X ω δ (.BoolOp .Or (a :: b :: rest) pos) Φ := fun σ H Q s q =>
  WW.of (pw_or (WT.pt X a) (WW.pw X _)) (h σ H _ s fun ω1 k H1 f1 s1 k1 => by
    cases k with
    | false => exact f1 σ H1 Q s1 fun ω2 c H2 f2 s2 k2 => q ω2 c H2 f2 s2 (k1.trans k2)
    | true => exact q ω1 true H1 f1 s1 k1)
theorem nt_and {Φ : Ow → Bool → Prop} (h : NT X ω δ a fun ω1 k => if k = true then NT X ω1 δ b Φ else Φ ω1 false) : NT X ω δ (.BoolOp .And [a, b] pos) Φ :=
  nt_w (nw_and (h.imp fun ω1 k f => by cases k with | true => exact nw_and1 f | false => exact f))
theorem nt_or {Φ : Ow → Bool → Prop} (h : NT X ω δ a fun ω1 k => if k = true then Φ ω1 true else NT X ω1 δ b Φ) : NT X ω δ (.BoolOp .Or [a, b] pos) Φ :=
  nt_w (nw_or (h.imp fun ω1 k f => by cases k with | false => exact nw_or1 f | true => exact f))
theorem nt_not {Φ : Ow → Bool → Prop} (h : NT X ω δ a fun ω1 k => Φ ω1 (!k)) : NT X ω δ (.UnaryOp .Not a pos) Φ := fun σ H Q s q =>
  WT.of (pt_not (WT.pt X a)) (h σ H _ s fun ω1 k H1 f1 s1 k1 => q ω1 _ H1 f1 s1 k1)
theorem n_one {op} (h : N X ω δ a Φ) : N X ω δ (.BoolOp op [a] pos) Φ := n_lift (pe_one (WE.pe X a)) fun σ H Q s q => h σ H Q s q
theorem n_and (h : N X ω δ a fun ω1 c => isB ω1 (fun ω1 k => if k = true then N X ω1 δ (.BoolOp .And (b :: rest) pos) Φ else Φ ω1 (.dat (.bool false))) c) : N X ω δ (.BoolOp .And (a :: b :: rest) pos) Φ :=
  n_lift (pe_and (WE.pe X a) (WE.pe X _)) fun σ H Q s q => h σ H _ s fun ω1 c v H1 ⟨k, e1, f1⟩ s1 k1 o1 => by
    subst e1
    cases bool_of o1
    refine ⟨k, rfl, ?_⟩
    cases k with
    | true => exact f1 σ H1 Q s1 fun ω2 c v H2 f2 s2 k2 o2 => q ω2 c v H2 f2 s2 (k1.trans k2) o2
    | false => exact q ω1 _ _ H1 f1 s1 k1 (Rp.bl false)
theorem n_or (h : N X ω δ a fun ω1 c => isB ω1 (fun ω1 k => if k = true then Φ ω1 (.dat (.bool true)) else N X ω1 δ (.BoolOp .Or (b :: rest) pos) Φ) c) : N X ω δ (.BoolOp .Or (a :: b :: rest) pos) Φ :=
  n_lift (pe_or (WE.pe X a) (WE.pe X _)) fun σ H Q s q => h σ H _ s fun ω1 c v H1 ⟨k, e1, f1⟩ s1 k1 o1 => by
    subst e1
    cases bool_of o1
    refine ⟨k, rfl, ?_⟩
    cases k with
    | false => exact f1 σ H1 Q s1 fun ω2 c v H2 f2 s2 k2 o2 => q ω2 c v H2 f2 s2 (k1.trans k2) o2
    | true => exact q ω1 _ _ H1 f1 s1 k1 (Rp.bl true)
theorem n_not (h : N X ω δ a fun ω1 c => isB ω1 (fun ω1 k => Φ ω1 (.dat (.bool (!k)))) c) : N X ω δ (.UnaryOp .Not a pos) Φ :=
  n_lift (pe_not (WE.pe X a)) fun σ H Q s q => h σ H _ s fun ω1 c v H1 ⟨k, e1, f1⟩ s1 k1 o1 => by
    subst e1
    cases bool_of o1
    exact ⟨k, rfl, q ω1 _ _ H1 f1 s1 k1 (Rp.bl _)⟩
/-! ## operators -/
theorem n_bop {op : Operator} {r : R2} (ho : OpR X (binaryOp op) r) (h : N X ω δ a fun ω1 c1 => N X ω1 δ b fun ω2 c2 => Op2 X r ω2 δ c1 c2 Φ) : N X ω δ (.BinOp a op b pos) Φ :=
  n_op2 (pe_op ho (WE.pe X a) (WE.pe X b)) h
theorem n_cop {op : CmpOp} {r : R2} (ho : OpR X (compareOp op) r) (hm : behindInMarks op b = false) (h : N X ω δ a fun ω1 c1 => N X ω1 δ b fun ω2 c2 => Op2 X r ω2 δ c1 c2 Φ) : N X ω δ (.Compare a [op] [b] pos) Φ :=
  n_op2 (pe_cmpR ho (WE.pe X a) (WE.pe X b) hm) h
/-- two ints -/
def isI2 (ω : Ow) (c1 c2 : Cell) (P : Int → Int → Prop) : Prop := ∃ i j, c1 = .dat (.int i) ∧ c2 = .dat (.int j) ∧ P i j
theorem isI2.mk {i j : Int} {P : Int → Int → Prop} (h : P i j) : isI2 ω (.dat (.int i)) (.dat (.int j)) P := ⟨i, j, rfl, rfl, h⟩
theorem op2_I0 {g : Int → Int → V} {G : Int → Int → PyData} {c1 c2 : Cell} (hg : ∀ K H i j, Rp K H (g i j) (G i j)) (h : isI2 ω c1 c2 fun i j => Φ ω (.dat (G i j))) : Op2 X (rI0 g) ω δ c1 c2 Φ := fun x y σ H Q s o1 o2 q => by
  obtain ⟨i, j, e1, e2, f⟩ := h
  subst e1; subst e2
  cases int_of o1; cases int_of o2
  exact ⟨i, j, rfl, rfl, q ω _ _ H f s (Kp.refl _ _) (hg _ _ i j)⟩
theorem op2_I {C : Int → Int → Prop} {g : Int → Int → V} {G : Int → Int → PyData} {c1 c2 : Cell} (hg : ∀ K H i j, Rp K H (g i j) (G i j)) (h : isI2 ω c1 c2 fun i j => C i j ∧ Φ ω (.dat (G i j))) : Op2 X (rI C g) ω δ c1 c2 Φ := fun x y σ H Q s o1 o2 q => by
  obtain ⟨i, j, e1, e2, hc, f⟩ := h
  subst e1; subst e2
  cases int_of o1; cases int_of o2
  exact ⟨i, j, rfl, rfl, hc, q ω _ _ H f s (Kp.refl _ _) (hg _ _ i j)⟩
theorem n_add (h : N X ω δ a fun ω1 c1 => N X ω1 δ b fun ω2 c2 => isI2 ω2 c1 c2 fun i j => Φ ω2 (.dat (.int (i + j)))) : N X ω δ (.BinOp a .Add b pos) Φ :=
  n_bop op_add (h.imp fun _ _ h1 => h1.imp fun _ _ h2 => op2_I0 (G := fun i j => .int (i + j)) (fun _ _ i j => .int _) h2)
theorem n_sub (h : N X ω δ a fun ω1 c1 => N X ω1 δ b fun ω2 c2 => isI2 ω2 c1 c2 fun i j => Φ ω2 (.dat (.int (i - j)))) : N X ω δ (.BinOp a .Sub b pos) Φ :=
  n_bop op_sub (h.imp fun _ _ h1 => h1.imp fun _ _ h2 => op2_I0 (G := fun i j => .int (i - j)) (fun _ _ i j => .int _) h2)
theorem n_mul (h : N X ω δ a fun ω1 c1 => N X ω1 δ b fun ω2 c2 => isI2 ω2 c1 c2 fun i j => CMul i j ∧ Φ ω2 (.dat (.int (i * j)))) : N X ω δ (.BinOp a .Mult b pos) Φ :=
  n_bop op_mul (h.imp fun _ _ h1 => h1.imp fun _ _ h2 => op2_I (G := fun i j => .int (i * j)) (fun _ _ i j => .int _) h2)
theorem n_mod (h : N X ω δ a fun ω1 c1 => N X ω1 δ b fun ω2 c2 => isI2 ω2 c1 c2 fun i j => j ≠ 0 ∧ Φ ω2 (.dat (.int (i.fmod j)))) : N X ω δ (.BinOp a .Mod b pos) Φ :=
  n_bop op_modN (h.imp fun _ _ h1 => h1.imp fun _ _ h2 => op2_I (G := fun i j => .int (i.fmod j)) (fun _ _ i j => .int _) h2)
theorem n_fdiv (h : N X ω δ a fun ω1 c1 => N X ω1 δ b fun ω2 c2 => isI2 ω2 c1 c2 fun i j => CDivN i j ∧ Φ ω2 (.dat (.int (i.fdiv j)))) : N X ω δ (.BinOp a .FloorDiv b pos) Φ :=
  n_bop op_fdivN (h.imp fun _ _ h1 => h1.imp fun _ _ h2 => op2_I (G := fun i j => .int (i.fdiv j)) (fun _ _ i j => .int _) h2)
theorem n_pow (h : N X ω δ a fun ω1 c1 => N X ω1 δ b fun ω2 c2 => isI2 ω2 c1 c2 fun i j => CPow i j ∧ Φ ω2 (.dat (.int (i ^ j.toNat)))) : N X ω δ (.BinOp a .Pow b pos) Φ :=
  n_bop op_pow (h.imp fun _ _ h1 => h1.imp fun _ _ h2 => op2_I (G := fun i j => .int (i ^ j.toNat)) (fun _ _ i j => .int _) h2)
theorem n_lt (h : N X ω δ a fun ω1 c1 => N X ω1 δ b fun ω2 c2 => isI2 ω2 c1 c2 fun i j => Φ ω2 (.dat (.bool (decide (i < j))))) : N X ω δ (.Compare a [.Lt] [b] pos) Φ :=
  n_cop op_lt (nomark _) (h.imp fun _ _ h1 => h1.imp fun _ _ h2 => op2_I0 (G := fun i j => .bool (decide (i < j))) (fun _ _ i j => .bl _) h2)
theorem n_le (h : N X ω δ a fun ω1 c1 => N X ω1 δ b fun ω2 c2 => isI2 ω2 c1 c2 fun i j => Φ ω2 (.dat (.bool (decide (i ≤ j))))) : N X ω δ (.Compare a [.LtE] [b] pos) Φ :=
  n_cop op_le (nomark _) (h.imp fun _ _ h1 => h1.imp fun _ _ h2 => op2_I0 (G := fun i j => .bool (decide (i ≤ j))) (fun _ _ i j => .bl _) h2)
theorem n_gt (h : N X ω δ a fun ω1 c1 => N X ω1 δ b fun ω2 c2 => isI2 ω2 c1 c2 fun i j => Φ ω2 (.dat (.bool (decide (j < i))))) : N X ω δ (.Compare a [.Gt] [b] pos) Φ :=
  n_cop op_gt (nomark _) (h.imp fun _ _ h1 => h1.imp fun _ _ h2 => op2_I0 (G := fun i j => .bool (decide (j < i))) (fun _ _ i j => .bl _) h2)
theorem n_ge (h : N X ω δ a fun ω1 c1 => N X ω1 δ b fun ω2 c2 => isI2 ω2 c1 c2 fun i j => Φ ω2 (.dat (.bool (decide (j ≤ i))))) : N X ω δ (.Compare a [.GtE] [b] pos) Φ :=
  n_cop op_ge (nomark _) (h.imp fun _ _ h1 => h1.imp fun _ _ h2 => op2_I0 (G := fun i j => .bool (decide (j ≤ i))) (fun _ _ i j => .bl _) h2)
theorem n_neg (h : N X ω δ a fun ω1 c1 => ∃ i, c1 = .dat (.int i) ∧ Φ ω1 (.dat (.int (-i)))) : N X ω δ (.UnaryOp .USub a pos) Φ :=
  n_op1 (pe_un un_neg (WE.pe X a)) (h.imp fun ω1 c1 ⟨i, e1, f⟩ x σ H Q s o q => by
    subst e1
    cases int_of o
    exact ⟨i, rfl, q ω1 _ _ H f s (Kp.refl _ _) (Rp.int _)⟩)
/-- == of data without dicts -/
theorem op2_eq {c1 c2 : Cell} (h : ∃ d1 d2, c1 = .dat d1 ∧ c2 = .dat d2 ∧ SeqAt.shaped d1 = true ∧ SeqAt.shaped d2 = true ∧ Φ ω (.dat (.bool (PyData.eqv d1 d2)))) : Op2 X (rEqD X.K) ω δ c1 c2 Φ := fun x y σ H Q s o1 o2 q => by
  obtain ⟨d1, d2, e1, e2, h1, h2, f⟩ := h
  subst e1; subst e2
  exact ⟨d1, d2, dp_of (SeqAt.canLay_of_shaped h1) (Rp.mono hid_same o1), dp_of (SeqAt.canLay_of_shaped h2) (Rp.mono hid_same o2), h1, h2, q ω _ _ H f s (Kp.refl _ _) (Rp.bl _)⟩
theorem op2_ne {c1 c2 : Cell} (h : ∃ d1 d2, c1 = .dat d1 ∧ c2 = .dat d2 ∧ SeqAt.shaped d1 = true ∧ SeqAt.shaped d2 = true ∧ Φ ω (.dat (.bool (!PyData.eqv d1 d2)))) : Op2 X (rNeD X.K) ω δ c1 c2 Φ := fun x y σ H Q s o1 o2 q => by
  obtain ⟨d1, d2, e1, e2, h1, h2, f⟩ := h
  subst e1; subst e2
  exact ⟨d1, d2, dp_of (SeqAt.canLay_of_shaped h1) (Rp.mono hid_same o1), dp_of (SeqAt.canLay_of_shaped h2) (Rp.mono hid_same o2), h1, h2, q ω _ _ H f s (Kp.refl _ _) (Rp.bl _)⟩
theorem n_eq (hu : X.A.units + 64 < cLine) (h : N X ω δ a fun ω1 c1 => N X ω1 δ b fun ω2 c2 => ∃ d1 d2, c1 = .dat d1 ∧ c2 = .dat d2 ∧ SeqAt.shaped d1 = true ∧ SeqAt.shaped d2 = true ∧ Φ ω2 (.dat (.bool (PyData.eqv d1 d2)))) : N X ω δ (.Compare a [.Eq] [b] pos) Φ :=
  n_cop (op_eqD hu) (nomark _) (h.imp fun _ _ h1 => h1.imp fun _ _ h2 => op2_eq h2)
theorem n_ne (hu : X.A.units + 64 < cLine) (h : N X ω δ a fun ω1 c1 => N X ω1 δ b fun ω2 c2 => ∃ d1 d2, c1 = .dat d1 ∧ c2 = .dat d2 ∧ SeqAt.shaped d1 = true ∧ SeqAt.shaped d2 = true ∧ Φ ω2 (.dat (.bool (!PyData.eqv d1 d2)))) : N X ω δ (.Compare a [.NotEq] [b] pos) Φ :=
  n_cop (op_neD hu) (nomark _) (h.imp fun _ _ h1 => h1.imp fun _ _ h2 => op2_ne h2)
/-- is None -/
def isNone : PyData → Bool
  | .none => true
  | _ => false
theorem rp_non {K : PySem.W.Frag} {H : Hp} {v : V} {d : PyData} (h : Rp K H v d) : decide (v = .non) = isNone d := by cases h <;> simp [isNone]
theorem n_isN (h : N X ω δ a fun ω1 c1 => ∃ d, c1 = .dat d ∧ Φ ω1 (.dat (.bool (isNone d)))) {j p2} : N X ω δ (.Compare a [.Is] [.Constant .none j p2] pos) Φ :=
  n_lift (pe_cmp (pc_isN (WE.pe X a))) fun σ H Q s q => h σ H _ s fun ω1 c v H1 ⟨d, e1, f1⟩ s1 k1 o1 => by
    subst e1
    show Q (.bl (decide (v = .non))) H1
    rw [rp_non o1]
    exact q ω1 _ _ H1 f1 s1 k1 (Rp.bl _)
theorem n_notN (h : N X ω δ a fun ω1 c1 => ∃ d, c1 = .dat d ∧ Φ ω1 (.dat (.bool (!isNone d)))) {j p2} : N X ω δ (.Compare a [.IsNot] [.Constant .none j p2] pos) Φ :=
  n_lift (pe_cmp (pc_notN (WE.pe X a))) fun σ H Q s q => h σ H _ s fun ω1 c v H1 ⟨d, e1, f1⟩ s1 k1 o1 => by
    subst e1
    show Q (.bl (!decide (v = .non))) H1
    rw [rp_non o1]
    exact q ω1 _ _ H1 f1 s1 k1 (Rp.bl _)
/-! ## sequences -/
theorem atI_rp {K : PySem.W.Frag} {H : Hp} {xs : List V} {ds : List PyData} {i : Int} {d : PyData} (r : RpA K H xs ds) (h : atI ds i = some d) : ∃ v, atI xs i = some v ∧ Rp K H v d := by
  unfold atI at h ⊢
  rw [r.len]
  cases q : ixN ds.length i with
  | none => rw [q] at h; cases h
  | some j =>
    rw [q] at h
    exact r.get h
theorem n_ixl (hp : PlainIx b) (h : N X ω δ a fun ω1 c1 => N X ω1 δ b fun ω2 c2 => ∃ ds i d, c1 = .dat (.list ds) ∧ c2 = .dat (.int i) ∧ atI ds i = some d ∧ Φ ω2 (.dat d)) : N X ω δ (.Subscript a b pos) Φ :=
  n_op2 (pe_ix ix_list (WE.pe X a) (WE.pe X b) hp) (h.imp fun _ _ h1 => h1.imp fun ω2 _ ⟨ds, i, d, e1, e2, hi, f⟩ x y σ H Q s o1 o2 q => by
    subst e1; subst e2
    cases int_of o2
    cases o1 with
    | @lst p xs ds hl hr =>
      obtain ⟨v, h1, h2⟩ := atI_rp hr hi
      exact ⟨p, xs, i, v, rfl, rfl, SqL.of (hid_some hl).2, h1, q ω2 _ v H f s (Kp.refl _ _) h2⟩)
theorem n_ixt (hp : PlainIx b) (h : N X ω δ a fun ω1 c1 => N X ω1 δ b fun ω2 c2 => ∃ ds i d, c1 = .dat (.tuple ds) ∧ c2 = .dat (.int i) ∧ atI ds i = some d ∧ Φ ω2 (.dat d)) : N X ω δ (.Subscript a b pos) Φ :=
  n_op2 (pe_ix ix_tup (WE.pe X a) (WE.pe X b) hp) (h.imp fun _ _ h1 => h1.imp fun ω2 _ ⟨ds, i, d, e1, e2, hi, f⟩ x y σ H Q s o1 o2 q => by
    subst e1; subst e2
    cases int_of o2
    cases o1 with
    | @tup p xs ds hl hr =>
      obtain ⟨v, h1, h2⟩ := atI_rp hr hi
      exact ⟨p, xs, i, v, rfl, rfl, sqt_hid hl, h1, q ω2 _ v H f s (Kp.refl _ _) h2⟩)
end
end DL

namespace DL
open PySem PySem.Spec L2
/-! ## argument lists, displays -/
section
variable {X : Cx} {ω : Ow} {δ : Env} {e a b c : Expr} {rest es : List Expr} {Φ : Ow → Cell → Prop} {ΦA : Ow → List Cell → Prop} {pos : Pos}
theorem na_nil (h : ΦA ω []) : NA X ω δ [] ΦA := fun σ H Q s q => WA.of pa_nil (q ω [] [] H h s (Kp.refl _ _) .nil)
theorem na_cons (h : N X ω δ e fun ω1 c1 => NA X ω1 δ es fun ω2 cs => ΦA ω2 (c1 :: cs)) (hs : starEach (e :: es) X.env = (false, eval e X.env) :: starEach es X.env := by rfl) : NA X ω δ (e :: es) ΦA := fun σ H Q s q =>
  WA.of (pa_cons (WE.pe X e) (WA.pa X es) hs) (h σ H _ s fun ω1 c1 v H1 f1 s1 k1 o1 => f1 σ H1 _ s1 fun ω2 cs vs H2 f2 s2 k2 o2 => q ω2 _ _ H2 f2 s2 (k1.trans k2) (.cons (o1.mono k2) o2))
def dats (ds : List PyData) : List Cell := ds.map .dat
theorem cells_rpa {K : PySem.W.Frag} {O : List Addr} {H : Hp} : ∀ {vs : List V} {ds : List PyData}, Cells K O H vs (dats ds) → RpA K (hid O H) vs ds
  | [], [], _ => .nil
  | _ :: _, _ :: _, h => by
    cases h with
    | cons h r => exact .cons h (cells_rpa r)
  | [], _ :: _, h => nomatch h
  | _ :: _, [], h => nomatch h
theorem sz1000 {n : Nat} (h : n ≤ 1000) : n ≤ sizeLine := Nat.le_trans h (by decide)
theorem n_tup {x1} (h : NA X ω δ es fun ω1 cs => ∃ ds, cs = dats ds ∧ ds.length ≤ 1000 ∧ Φ ω1 (.dat (.tuple ds))) : N X ω δ (.Tuple es x1 pos) Φ :=
  n_lift (pe_tup (WA.pa X es)) fun σ H Q s q => h σ H _ s fun ω1 cs vs H1 ⟨ds, e1, z, f⟩ s1 k1 o1 => by
    subst e1
    have r := cells_rpa o1
    refine ⟨by rw [r.len]; exact sz1000 z, fun p hp => ?_⟩
    exact q ω1 _ _ _ f (s1.new hp) (k1.trans (kp_new s1.own hp)) (new_tup s1.own hp r)
theorem n_lst (h : NA X ω δ es fun ω1 cs => ∃ ds, cs = dats ds ∧ ds.length ≤ 1000 ∧ Φ ω1 (.dat (.list ds))) : N X ω δ (.List es pos) Φ :=
  n_lift (pe_lst (WA.pa X es)) fun σ H Q s q => h σ H _ s fun ω1 cs vs H1 ⟨ds, e1, z, f⟩ s1 k1 o1 => by
    subst e1
    have r := cells_rpa o1
    refine ⟨by rw [r.len]; exact sz1000 z, fun p hp => ?_⟩
    exact q ω1 _ _ _ f (s1.new hp) (k1.trans (kp_new s1.own hp)) (new_lst s1.own hp r)
/-! ## owned lists -/
def lstP (ds : List PyData) : OwnP := ⟨fun K H o => ∃ vs, o = .lst vs ∧ RpA K H vs ds, fun K H H' o e ⟨vs, h1, h2⟩ => ⟨vs, h1, h2.mono e⟩⟩
theorem hid_upd {O : List Addr} {H : Hp} {p : Addr} {o : HO} (h : p ∈ O) : hid O (upd H p o) = hid O H := by
  funext b
  by_cases q : b ∈ O
  · rw [hid_in q, hid_in q]
  · rw [hid_out q, hid_out q, upd_ne (fun e => q (by rw [e]; exact h))]
theorem dom_set {ω : Ow} {i : Nat} {p : Addr} {P P' : OwnP} (h : ω[i]? = some (p, P)) : dom (ω.set i (p, P')) = dom ω := by
  unfold dom
  rw [List.map_set]
  apply List.ext_getElem?
  intro j
  rw [List.getElem?_set]
  split
  · rename_i e
    subst e
    have hl := (List.getElem?_eq_some_iff.mp h).1
    rw [List.length_map, if_pos hl, List.getElem?_map, h]
    rfl
  · rfl
theorem mem_dom {ω : Ow} {i : Nat} {p : Addr} {P : OwnP} (h : ω[i]? = some (p, P)) : p ∈ dom ω := List.mem_map.mpr ⟨(p, P), List.mem_of_getElem? h, rfl⟩
theorem kp_upd {O : List Addr} {H : Hp} {p : Addr} {o : HO} (h : p ∈ O) : Kp O H O (upd H p o) := by
  intro b u q
  rw [hid_upd h]
  exact q
theorem OwnOk.put {K : PySem.W.Frag} {ω : Ow} {H : Hp} {i : Nat} {p : Addr} {P P' : OwnP} {o : HO} (s : OwnOk K ω H) (h : ω[i]? = some (p, P)) (ho : P'.ok K (hid (dom ω) H) o) : OwnOk K (ω.set i (p, P')) (upd H p o) := by
  refine ⟨by rw [dom_set h]; exact s.nd, fun a R q => ?_⟩
  rw [dom_set h, hid_upd (mem_dom h)]
  have nd := s.nd
  obtain ⟨j, hj⟩ := List.getElem?_of_mem q
  rw [List.getElem?_set] at hj
  split at hj
  · split at hj
    · cases hj
      exact ⟨o, upd_same, ho⟩
    · cases hj
  · rename_i hij
    have hne : a ≠ p := by
      intro e
      have h1 : (dom ω)[i]? = some p := by unfold dom; rw [List.getElem?_map, h]; rfl
      have h2 : (dom ω)[j]? = some a := by unfold dom; rw [List.getElem?_map, hj]; rfl
      rw [e] at h2
      exact hij ((List.getElem?_inj (List.getElem?_eq_some_iff.mp h1).1 nd).mp (h1.trans h2.symm))
    obtain ⟨u, h1, h2⟩ := s.at_ a R (List.mem_of_getElem? hj)
    exact ⟨u, by rw [upd_ne hne]; exact h1, h2⟩
theorem StOk.put {K : PySem.W.Frag} {ω : Ow} {δ : Env} {σ : St} {H : Hp} {i : Nat} {p : Addr} {P P' : OwnP} {o : HO} (s : StOk K ω δ σ H) (h : ω[i]? = some (p, P)) (ho : P'.ok K (hid (dom ω) H) o) : StOk K (ω.set i (p, P')) δ σ (upd H p o) :=
  ⟨by rw [dom_set h]; exact s.env.mono (kp_upd (mem_dom h)), s.own.put h ho⟩
/-- a new owned object -/
theorem OwnOk.cons {K : PySem.W.Frag} {ω : Ow} {H : Hp} {p : Addr} {P : OwnP} {o : HO} (s : OwnOk K ω H) (hp : H p = none) (ho : P.ok K (hid (dom ω) H) o) : OwnOk K ((p, P) :: ω) (upd H p o) ∧ Kp (dom ω) H (dom ((p, P) :: ω)) (upd H p o) := by
  have k : Kp (dom ω) H (dom ((p, P) :: ω)) (upd H p o) := fun b u q => by
    obtain ⟨h1, h2⟩ := hid_some q
    have hb : b ≠ p := ne_of_none h2 hp
    have hb2 : b ∉ dom ((p, P) :: ω) := fun z => (List.mem_cons.mp z).elim hb h1
    rw [hid_out hb2, upd_ne hb]
    exact h2
  refine ⟨⟨List.nodup_cons.mpr ⟨s.notin hp, s.nd⟩, fun a R q => ?_⟩, k⟩
  rcases List.mem_cons.mp q with e | q
  · cases e
    exact ⟨o, upd_same, P.mono _ _ _ _ k ho⟩
  · obtain ⟨u, h1, h2⟩ := s.at_ a R q
    exact ⟨u, by rw [upd_ne (ne_of_none h1 hp)]; exact h1, R.mono _ _ _ _ k h2⟩
theorem StOk.cons {K : PySem.W.Frag} {ω : Ow} {δ : Env} {σ : St} {H : Hp} {p : Addr} {P : OwnP} {o : HO} (s : StOk K ω δ σ H) (hp : H p = none) (ho : P.ok K (hid (dom ω) H) o) : StOk K ((p, P) :: ω) δ σ (upd H p o) :=
  ⟨s.env.mono (s.own.cons hp ho).2, (s.own.cons hp ho).1⟩
/-- the first owned object is let go: what it holds is data from now on -/
theorem kp_drop {ω : Ow} {H : Hp} {p : Addr} {P : OwnP} : Kp (dom ((p, P) :: ω)) H (dom ω) H := fun b u q => by
  obtain ⟨h1, h2⟩ := hid_some q
  rw [hid_out (fun z => h1 (List.mem_cons_of_mem _ z))]
  exact h2
theorem OwnOk.drop {K : PySem.W.Frag} {ω : Ow} {H : Hp} {p : Addr} {P : OwnP} (s : OwnOk K ((p, P) :: ω) H) : OwnOk K ω H := by
  have nd := List.nodup_cons.mp s.nd
  refine ⟨nd.2, fun a R q => ?_⟩
  obtain ⟨u, h1, h2⟩ := s.at_ a R (List.mem_cons_of_mem _ q)
  exact ⟨u, h1, R.mono _ _ _ _ kp_drop h2⟩
theorem StOk.drop {K : PySem.W.Frag} {ω : Ow} {δ : Env} {σ : St} {H : Hp} {p : Addr} {P : OwnP} (s : StOk K ((p, P) :: ω) δ σ H) : StOk K ω δ σ H := ⟨s.env.mono kp_drop, s.own.drop⟩
theorem own_lst {K : PySem.W.Frag} {ω : Ow} {H : Hp} {p : Addr} {ds : List PyData} (s : OwnOk K ((p, lstP ds) :: ω) H) : Rp K (hid (dom ω) H) (.ref p) (.list ds) := by
  obtain ⟨o, h1, vs, rfl, h2⟩ := s.at_ p _ List.mem_cons_self
  have nd := List.nodup_cons.mp s.nd
  exact .lst (by rw [hid_out nd.1]; exact h1) (h2.mono kp_drop)
/-- a new list that may grow -/
theorem n_lstO (h : NA X ω δ es fun ω1 cs => ∃ ds, cs = dats ds ∧ ds.length ≤ 1000 ∧ ∀ p, Φ ((p, lstP ds) :: ω1) (.raw (.ref p))) : N X ω δ (.List es pos) Φ :=
  n_lift (pe_lst (WA.pa X es)) fun σ H Q s q => h σ H _ s fun ω1 cs vs H1 ⟨ds, e1, z, f⟩ s1 k1 o1 => by
    subst e1
    have r := cells_rpa o1
    refine ⟨by rw [r.len]; exact sz1000 z, fun p hp => ?_⟩
    have ho : (lstP ds).ok X.K (hid (dom ω1) H1) (.lst vs) := ⟨vs, rfl, r⟩
    exact q _ _ _ _ (f p) (s1.cons hp ho) (k1.trans (s1.own.cons hp ho).2) rfl
/-- the name of the first owned list, read to be handed on: from now on it is data -/
theorem n_share (i : Nat) {x : Str} {p : Addr} {ds : List PyData} (h : Φ ω (.dat (.list ds))) (hd : δ[i]? = some (some (.raw (.ref p))) := by rfl) (hN : X.N[i]? = some x := by rfl) (hv : Vis X.env.scope x := by first | exact Or.inl rfl | exact Or.inr (Or.inl rfl) | exact Or.inr (Or.inr rfl))
    (hg : (x == ("__debug__" : Str)) = false := by decide) (hcd : (x == ("__classdict__" : Str)) = false := by decide) : N X ((p, lstP ds) :: ω) δ (.Name x pos) Φ :=
  n_lift (pe_var hN hv hg hcd) fun σ H Q s q => by
    obtain ⟨v, h1, h2⟩ := s.get hd
    cases h2
    exact ⟨_, h1, q ω _ _ H h s.drop kp_drop (own_lst s.own)⟩
end
/-! ## blocks -/
section
variable {X : Cx} {ω : Ow} {δ : Env} {e a b c : Expr} {st : Stmt} {rest body orelse : List Stmt} {E : En} {pos : Pos}
theorem b_nil (h : E.nx ω δ) : B X ω δ [] E := fun σ H D s f => WB.of pss_nil (f.nx ω δ σ H h s (Kp.refl _ _))
theorem b_cons (h : S X ω δ st { E with nx := fun ω1 δ1 => B X ω1 δ1 rest E }) : B X ω δ (st :: rest) E := fun σ H D s f =>
  WB.of (pss_cons (WS.ps X st) (WB.pss X rest)) (h σ H { D with nx := fun σ' H' => WB X rest D σ' H' } s ⟨fun ω1 δ1 σ1 H1 q s1 k1 => q σ1 H1 D s1 (f.after k1), f.rt, f.bk, f.ct⟩)
theorem b_one (h : S X ω δ st E) : B X ω δ [st] E := fun σ H D s f => WB.of (pss_one (WS.ps X st)) (h σ H D s f)
theorem StOk.store {K : PySem.W.Frag} {ω : Ow} {δ : Env} {σ : St} {H : Hp} {v : V} {c : Cell} (s : StOk K ω δ σ H) (i : Nat) (h : CellOk K (dom ω) H v c) : StOk K ω (δ.set i (some c)) (σ.set i (some v)) H := ⟨s.env.set h i, s.own⟩
theorem s_set (i : Nat) {x : Str} {p2 : Pos} (hN : X.N.Nodup) (h : N X ω δ e fun ω1 c => E.nx ω1 (δ.set i (some c))) (hi : X.N[i]? = some x := by rfl) (hx : Loc X.env.scope x := by first | exact Or.inl rfl | exact Or.inr rfl) (hs : swapsWith e (some (.Name x p2)) pos.line X.env = pure false := by rfl)
    (hf : X.fn x = true ∨ X.env.scope.names.lookup x = some .local := by first | exact .inl rfl | exact .inr rfl | assumption) : S X ω δ (.Assign [.Name x p2] e pos) E := fun σ H D s f =>
  WS.of (ps_set hN hi hx (WE.pe X e) hs hf) (h σ H _ s fun ω1 c v H1 q s1 k1 o1 => f.nx ω1 _ _ H1 q (s1.store i o1) k1)
theorem s_ret (h : N X ω δ e fun ω1 c => E.rt ω1 c) : S X ω δ (.Return (some e) pos) E := fun σ H D s f =>
  WS.of (ps_ret (WE.pe X e)) (h σ H _ s fun ω1 c v H1 q s1 k1 o1 => f.rt ω1 c v H1 q s1.own k1 o1)
theorem s_retN (h : E.rt ω (.dat .none)) : S X ω δ (.Return none pos) E := fun σ H D s f => WS.of ps_retN (f.rt ω _ _ H h s.own (Kp.refl _ _) Rp.non)
theorem s_if (h : NT X ω δ c fun ω1 k => if k = true then B X ω1 δ body E else B X ω1 δ orelse E) : S X ω δ (.If c body orelse pos) E := fun σ H D s f =>
  WS.of (ps_if (WT.pt X c) (WB.pss X body) (WB.pss X orelse)) (h σ H _ s fun ω1 k H1 q s1 k1 => by
    cases k with
    | true => exact q σ H1 D s1 (f.after k1)
    | false => exact q σ H1 D s1 (f.after k1))
theorem s_expr (h : N X ω δ e fun ω1 _ => E.nx ω1 δ) (hs : swapsWith e none pos.line X.env = pure false := by rfl) : S X ω δ (.Expr e pos) E := fun σ H D s f =>
  WS.of (ps_expr (WE.pe X e) hs) (h σ H _ s fun ω1 c v H1 q s1 k1 o1 => f.nx ω1 δ σ H1 q s1 k1)
theorem s_pass (h : E.nx ω δ) : S X ω δ (.Pass pos) E := fun σ H D s f => WS.of ps_pass (f.nx ω δ σ H h s (Kp.refl _ _))
theorem s_break (h : E.bk ω δ) : S X ω δ (.Break pos) E := fun σ H D s f => WS.of ps_break (f.bk ω δ σ H h s (Kp.refl _ _))
theorem s_continue (h : E.ct ω δ) : S X ω δ (.Continue pos) E := fun σ H D s f => WS.of ps_continue (f.ct ω δ σ H h s (Kp.refl _ _))
theorem s_augI (i : Nat) {x : Str} {p2 : Pos} {n : Int} (hN : X.N.Nodup) (hd : δ[i]? = some (some (.dat (.int n)))) (h : N X ω δ e fun ω1 c => ∃ m, c = .dat (.int m) ∧ E.nx ω1 (δ.set i (some (.dat (.int (n + m)))))) (hi : X.N[i]? = some x := by rfl) (hx : Loc X.env.scope x := by first | exact Or.inl rfl | exact Or.inr rfl)
    (hf : X.fn x = true ∨ X.env.scope.names.lookup x = some .local := by first | exact .inl rfl | exact .inr rfl | assumption) : S X ω δ (.AugAssign (.Name x p2) .Add e pos) E := fun σ H D s f =>
  WS.of (ps_aug hN hi hx (WE.pe X e) ip_add hf) (by
    obtain ⟨v, h1, h2⟩ := s.get hd
    cases int_of h2
    refine ⟨_, h1, h σ H _ s fun ω1 c v H1 ⟨m, e1, q⟩ s1 k1 o1 => ?_⟩
    subst e1
    cases int_of o1
    exact ⟨n, m, rfl, rfl, f.nx ω1 _ _ H1 q (s1.store i (c := .dat (.int (n + m))) (Rp.int _)) k1⟩)
/-- a, b = x, y: two plain local names, stored from the right; no pair is seen -/
theorem s_par (i j : Nat) {x y : Str} {px py pt : Pos} {kt k2 pt2} (hc : X.calm = true) (hN : X.N.Nodup) (h : NA X ω δ [a, b] fun ω1 cs => ∃ c1 c2, cs = [c1, c2] ∧ E.nx ω1 ((δ.set i (some c1)).set j (some c2)))
    (hij : i ≠ j := by decide) (hi : X.N[i]? = some x := by rfl) (hj : X.N[j]? = some y := by rfl) (hx : X.env.scope.names.lookup x = some .local := by rfl) (hy : X.env.scope.names.lookup y = some .local := by rfl)
    (hw : swappedStores [.Tuple [.Name x px, .Name y py] kt pt] (.Tuple [a, b] k2 pt2) X.env = pure (some [x, y]) := by rfl)
    (hs : swapsWithSole [.Tuple [.Name x px, .Name y py] kt pt] (.Tuple [a, b] k2 pt2) pos.line X.env = pure false := by rfl) : S X ω δ (.Assign [.Tuple [.Name x px, .Name y py] kt pt] (.Tuple [a, b] k2 pt2) pos) E := fun σ H D s f =>
  WS.of (ps_par hc hN hi hj hij hx hy (WA.pa X _) hw hs) (h σ H _ s fun ω1 cs vs H1 ⟨c1, c2, e1, q⟩ s1 k1 o1 => by
    subst e1
    cases o1 with
    | cons o1 r =>
      cases r with
      | cons o2 r =>
        cases r
        exact ⟨_, _, rfl, f.nx ω1 _ _ H1 q ((s1.store i o1).store j o2) k1⟩)
end
end DL

namespace DL
open PySem PySem.Spec L2
section
variable {X : Cx} {ω : Ow} {δ : Env} {e a b c : Expr} {rest es : List Expr} {Φ : Ow → Cell → Prop} {ΦA : Ow → List Cell → Prop} {pos p1 p2 : Pos} {x : Str}
/-! ## calls of built-ins -/
def CallD (X : Cx) (r : List V → Hp → VK → Prop) (ω : Ow) (δ : Env) (cs : List Cell) (Φ : Ow → Cell → Prop) : Prop :=
  ∀ vs σ H Q, StOk X.K ω δ σ H → Cells X.K (dom ω) H vs cs → (∀ ω' c v H', Φ ω' c → StOk X.K ω' δ σ H' → Kp (dom ω) H (dom ω') H' → CellOk X.K (dom ω') H' v c → Q v H') → r vs H Q
theorem n_callB {id : String} {r : List V → Hp → VK → Prop} (hc : CallR X (.builtin id) r) (hm : X.mg x = none) (h : NA X ω δ (e :: es) fun ω1 cs => CallD X r ω1 δ cs Φ) (hg : Gl X x := by rfl) (hv : bootBuiltins x = some (.builtin id) := by decide +kernel)
    (hn : x ≠ "__name__" := by decide) (hdb : (x == ("__debug__" : Str)) = false := by decide)
    (he : starEach (e :: es) X.env = (false, eval e X.env) :: starEach es X.env := by rfl) (hpl : (backTo pos (starEach es X.env)).any (·.1) = false := by rfl) : N X ω δ (.Call (.Name x p1) (e :: es) [] pos) Φ :=
  n_lift (pe_callB hc hg hm hv (WA.pa X _) hn hdb he hpl) fun σ H Q s q => h σ H _ s fun ω1 cs vs H1 f s1 k1 o1 => f vs σ H1 Q s1 o1 fun ω2 c v H2 f2 s2 k2 o2 => q ω2 c v H2 f2 s2 (k1.trans k2) o2
theorem n_callTy {T : String} {r : List V → Hp → VK → Prop} (hc : CallR X (.type T) r) (hm : X.mg x = none) (h : NA X ω δ (e :: es) fun ω1 cs => CallD X r ω1 δ cs Φ) (hg : Gl X x := by rfl) (hv : bootBuiltins x = some (.type T) := by decide +kernel)
    (hn : x ≠ "__name__" := by decide) (hdb : (x == ("__debug__" : Str)) = false := by decide)
    (he : starEach (e :: es) X.env = (false, eval e X.env) :: starEach es X.env := by rfl) (hpl : (backTo pos (starEach es X.env)).any (·.1) = false := by rfl) : N X ω δ (.Call (.Name x p1) (e :: es) [] pos) Φ :=
  n_lift (pe_callTy hc hg hm hv (WA.pa X _) hn hdb he hpl) fun σ H Q s q => h σ H _ s fun ω1 cs vs H1 f s1 k1 o1 => f vs σ H1 Q s1 o1 fun ω2 c v H2 f2 s2 k2 o2 => q ω2 c v H2 f2 s2 (k1.trans k2) o2
theorem cells1 {K : PySem.W.Frag} {O : List Addr} {H : Hp} {vs : List V} {c : Cell} (h : Cells K O H vs [c]) : ∃ v, vs = [v] ∧ CellOk K O H v c := by
  cases h with
  | cons o r => cases r; exact ⟨_, rfl, o⟩
theorem cells2 {K : PySem.W.Frag} {O : List Addr} {H : Hp} {vs : List V} {c d : Cell} (h : Cells K O H vs [c, d]) : ∃ v w, vs = [v, w] ∧ CellOk K O H v c ∧ CellOk K O H w d := by
  cases h with
  | cons o r =>
    cases r with
    | cons o2 r => cases r; exact ⟨_, _, rfl, o, o2⟩
/-- the length of a datum -/
def lenD : PyData → Option Nat
  | .list ds => some ds.length
  | .tuple ds => some ds.length
  | _ => none
theorem n_len (hm : X.mg "len" = none) (h : N X ω δ a fun ω1 c => ∃ d n, c = .dat d ∧ lenD d = some n ∧ Φ ω1 (.dat (.int (n : Int)))) (hg : Gl X "len" := by rfl) (he : starEach [a] X.env = (false, eval a X.env) :: starEach [] X.env := by rfl) : N X ω δ (.Call (.Name "len" p1) [a] [] pos) Φ :=
  n_callB call_len_seq hm (na_cons (h.imp fun ω1 c ⟨d, n, e1, e2, f⟩ => na_nil fun vs σ H Q s o q => by
    subst e1
    obtain ⟨v, rfl, ov⟩ := cells1 o
    cases ov with
    | lst hl r =>
      obtain rfl := Option.some.inj e2
      exact ⟨_, _, rfl, .inl (SqL.of (hid_some hl).2), by rw [r.len]; exact q ω1 _ _ H f s (Kp.refl _ _) (Rp.int _)⟩
    | tup hl r =>
      obtain rfl := Option.some.inj e2
      exact ⟨_, _, rfl, .inr (sqt_hid hl), by rw [r.len]; exact q ω1 _ _ H f s (Kp.refl _ _) (Rp.int _)⟩
    | _ => exact absurd e2 (by simp [lenD])) he) hg (he := he)
theorem n_abs (hm : X.mg "abs" = none) (h : N X ω δ a fun ω1 c => ∃ i, c = .dat (.int i) ∧ Φ ω1 (.dat (.int (if i < 0 then -i else i)))) (hg : Gl X "abs" := by rfl) (he : starEach [a] X.env = (false, eval a X.env) :: starEach [] X.env := by rfl) : N X ω δ (.Call (.Name "abs" p1) [a] [] pos) Φ :=
  n_callB call_abs hm (na_cons (h.imp fun ω1 c ⟨i, e1, f⟩ => na_nil fun vs σ H Q s o q => by
    subst e1
    obtain ⟨v, rfl, ov⟩ := cells1 o
    cases int_of ov
    exact ⟨i, rfl, q ω1 _ _ H f s (Kp.refl _ _) (Rp.int _)⟩) he) hg (he := he)
theorem n_intI (hm : X.mg "int" = none) (h : N X ω δ a fun ω1 c => ∃ i, c = .dat (.int i) ∧ Φ ω1 (.dat (.int i))) (hg : Gl X "int" := by rfl) (he : starEach [a] X.env = (false, eval a X.env) :: starEach [] X.env := by rfl) : N X ω δ (.Call (.Name "int" p1) [a] [] pos) Φ :=
  n_callTy call_int1 hm (na_cons (h.imp fun ω1 c ⟨i, e1, f⟩ => na_nil fun vs σ H Q s o q => by
    subst e1
    obtain ⟨v, rfl, ov⟩ := cells1 o
    cases int_of ov
    exact .inl ⟨i, rfl, q ω1 _ _ H f s (Kp.refl _ _) (Rp.int _)⟩) he) hg (he := he)
/-- list(x) as new data -/
theorem n_listOf (hm : X.mg "list" = none) (h : N X ω δ a fun ω1 c => ∃ ds, (c = .dat (.list ds) ∨ c = .dat (.tuple ds)) ∧ Φ ω1 (.dat (.list ds))) (hg : Gl X "list" := by rfl) (he : starEach [a] X.env = (false, eval a X.env) :: starEach [] X.env := by rfl) : N X ω δ (.Call (.Name "list" p1) [a] [] pos) Φ :=
  n_callTy call_list_of hm (na_cons (h.imp fun ω1 c ⟨ds, e1, f⟩ => na_nil fun vs σ H Q s o q => by
    obtain ⟨v, rfl, ov⟩ := cells1 o
    rcases e1 with rfl | rfl
    · cases ov with
      | lst hl r => exact ⟨_, _, rfl, .inl (SqL.of (hid_some hl).2), fun l hn => q ω1 _ _ _ f (s.new hn) (kp_new s.own hn) (new_lst s.own hn r)⟩
    · cases ov with
      | tup hl r => exact ⟨_, _, rfl, .inr (sqt_hid hl), fun l hn => q ω1 _ _ _ f (s.new hn) (kp_new s.own hn) (new_lst s.own hn r)⟩) he) hg (he := he)
/-- .. as an owned list -/
theorem n_listOfO (hm : X.mg "list" = none) (h : N X ω δ a fun ω1 c => ∃ ds, (c = .dat (.list ds) ∨ c = .dat (.tuple ds)) ∧ ∀ p, Φ ((p, lstP ds) :: ω1) (.raw (.ref p))) (hg : Gl X "list" := by rfl) (he : starEach [a] X.env = (false, eval a X.env) :: starEach [] X.env := by rfl) : N X ω δ (.Call (.Name "list" p1) [a] [] pos) Φ :=
  n_callTy call_list_of hm (na_cons (h.imp fun ω1 c ⟨ds, e1, f⟩ => na_nil fun vs σ H Q s o q => by
    obtain ⟨v, rfl, ov⟩ := cells1 o
    rcases e1 with rfl | rfl
    · cases ov with
      | @lst _ xs _ hl r =>
        have ho : (lstP ds).ok X.K (hid (dom ω1) H) (.lst xs) := ⟨xs, rfl, r⟩
        exact ⟨_, _, rfl, .inl (SqL.of (hid_some hl).2), fun l hn => q _ _ _ _ (f l) (s.cons hn ho) (s.own.cons hn ho).2 rfl⟩
    · cases ov with
      | @tup _ xs _ hl r =>
        have ho : (lstP ds).ok X.K (hid (dom ω1) H) (.lst xs) := ⟨xs, rfl, r⟩
        exact ⟨_, _, rfl, .inr (sqt_hid hl), fun l hn => q _ _ _ _ (f l) (s.cons hn ho) (s.own.cons hn ho).2 rfl⟩) he) hg (he := he)
theorem n_tupleOf (hm : X.mg "tuple" = none) (h : N X ω δ a fun ω1 c => ∃ ds, (c = .dat (.list ds) ∨ c = .dat (.tuple ds)) ∧ Φ ω1 (.dat (.tuple ds))) (hg : Gl X "tuple" := by rfl) (he : starEach [a] X.env = (false, eval a X.env) :: starEach [] X.env := by rfl) : N X ω δ (.Call (.Name "tuple" p1) [a] [] pos) Φ :=
  n_callTy call_tuple_of hm (na_cons (h.imp fun ω1 c ⟨ds, e1, f⟩ => na_nil fun vs σ H Q s o q => by
    obtain ⟨v, rfl, ov⟩ := cells1 o
    rcases e1 with rfl | rfl
    · cases ov with
      | lst hl r => exact ⟨_, _, rfl, .inl ⟨SqL.of (hid_some hl).2, fun l hn => q ω1 _ _ _ f (s.new hn) (kp_new s.own hn) (new_tup s.own hn r)⟩⟩
    · cases ov with
      | tup hl r => exact ⟨_, _, rfl, .inr ⟨sqt_hid hl, q ω1 _ _ H f s (Kp.refl _ _) (.tup hl r)⟩⟩) he) hg (he := he)
/-- what class a datum has -/
def tyD : PyData → String
  | .none => "NoneType"
  | .bool _ => "bool"
  | .int _ => "int"
  | .str _ => "str"
  | .list _ => "list"
  | .tuple _ => "tuple"
  | .dict _ => "dict"
inductive Ty where
  | int | bool | str | list | tuple | dict
def Ty.name : Ty → String
  | .int => "int"
  | .bool => "bool"
  | .str => "str"
  | .list => "list"
  | .tuple => "tuple"
  | .dict => "dict"
def isT : Ty → PyData → Bool
  | .int, .int _ => true
  | .int, .bool _ => true
  | .bool, .bool _ => true
  | .str, .str _ => true
  | .list, .list _ => true
  | .tuple, .tuple _ => true
  | .dict, .dict _ => true
  | _, _ => false
theorem kit_all (T : Ty) (d : PyData) : kitB (tyD d) T.name = some (isT T d) := by
  cases T <;> cases d <;> simp only [tyD, Ty.name, isT] <;> decide +kernel
def Ty.isDict : Ty → Bool
  | .dict => true
  | _ => false
theorem tyx_of {K : PySem.W.Frag} {O : List Addr} {H : Hp} {v : V} {d : PyData} (h : Rp K (hid O H) v d) : ∃ t, TyX K H v t ∧ ∀ T : Ty, T.isDict = false → PySem.W.kitOne K t (.type T.name) = some (isT T d) := by
  have old : ∀ {d : PyData}, TyX K H v (.type (tyD d)) → ∃ t, TyX K H v t ∧ ∀ T : Ty, T.isDict = false → PySem.W.kitOne K t (.type T.name) = some (isT T d) := fun {d} h => ⟨_, h, fun T _ => kit_ty (kit_all T d)⟩
  cases h with
  | non => exact old (d := .none) (.base .non)
  | bl b => exact old (d := .bool b) (.base (.bl b))
  | int i => exact old (d := .int i) (.base (.int i))
  | str y => exact old (d := .str y) (.base (.str y))
  | @lst _ _ ds hl _ => exact old (d := .list ds) (.base (.lst (hid_some hl).2))
  | @tup _ _ ds hl _ =>
    rcases hl with (hl | ⟨o, hl⟩) | ⟨o, its, n, hk, hc, _⟩
    · exact old (d := .tuple ds) (.base (.tup (hid_some hl).2))
    · exact old (d := .tuple ds) (.fTuple (hid_some hl).2)
    · exact old (d := .tuple ds) (.kTuple hk hc)
  | @dic _ _ ds hl _ => exact old (d := .dict ds) (.base (.dK (hid_some hl).2))
  | @ins a dx C fs ds hl k _ =>
    refine ⟨.ref C, .base (.ins (hid_some hl).2 k.cls k.cg k.hn k.tk k.ob), fun T hT => ?_⟩
    cases T with
    | dict => cases hT
    | _ => exact k.kit _ (by decide)
theorem n_isi (T : Ty) {y : Str} (hm : X.mg "isinstance" = none) (hy : X.mg y = none) (h : N X ω δ a fun ω1 c => ∃ d, c = .dat d ∧ Φ ω1 (.dat (.bool (isT T d)))) (hv : bootBuiltins y = some (.type T.name) := by decide +kernel)
    (hg : Gl X "isinstance" := by rfl) (hgy : Gl X y := by rfl) (hn : y ≠ "__name__" := by decide) (hdb : (y == ("__debug__" : Str)) = false := by decide)
    (he : starEach [a, .Name y p2] X.env = (false, eval a X.env) :: starEach [.Name y p2] X.env := by rfl) (he2 : starEach [.Name y p2] X.env = (false, eval (.Name y p2) X.env) :: starEach [] X.env := by rfl)
    (hpl : (backTo pos (starEach [.Name y p2] X.env)).any (·.1) = false := by rfl) (hT : T.isDict = false := by rfl) : N X ω δ (.Call (.Name "isinstance" p1) [a, .Name y p2] [] pos) Φ :=
  n_callB call_isi hm (na_cons (h.imp fun ω1 c ⟨d, e1, f⟩ => na_cons (n_lift (Φ := fun ω2 c2 => ω2 = ω1 ∧ c2 = .raw (.ty T.name)) (pe_bltn (v := .ty T.name) hgy hy hv rfl hn hdb) (fun σ H Q s q => q ω1 _ _ H ⟨rfl, rfl⟩ s (Kp.refl _ _) rfl) |>.imp fun ω2 c2 ⟨e2, e3⟩ => na_nil fun vs σ H Q s o q => by
    subst e1; subst e2; subst e3
    obtain ⟨v, w, rfl, ov, ow⟩ := cells2 o
    cases ow
    obtain ⟨t, ht, hk⟩ := tyx_of ov
    exact ⟨v, .ty T.name, t, .type T.name, _, rfl, .ty T.name, ht, hk T hT, q ω2 _ _ H f s (Kp.refl _ _) (Rp.bl _)⟩) he2) he) hg (he := he) (hpl := hpl)
/-- a constant of the module that is a datum -/
theorem n_globD {u : Value} {v : V} {d : PyData} (hm : X.mg x = some u) (hr : RelV v u) (hd : ∀ H, Rp X.K H v d) (h : Φ ω (.dat d)) (hg : Gl X x := by rfl) (hdb : (x == ("__debug__" : Str)) = false := by decide) : N X ω δ (.Name x pos) Φ :=
  n_lift (pe_glob hg hm hr hdb) fun σ H Q s q => q ω _ _ H h s (Kp.refl _ _) (hd _)
/-- x in a tuple or a list of flat things -/
def flatD : PyData → Bool
  | .none => true
  | .bool _ => true
  | .int _ => true
  | .str _ => true
  | _ => false
def valD : PyData → V
  | .none => .non
  | .bool b => .bl b
  | .int i => .int i
  | .str y => .str y
  | _ => .non
def inD (d : PyData) (ds : List PyData) : Bool := inV (valD d) (ds.map valD)
theorem flat_val {K : PySem.W.Frag} {H : Hp} {v : V} {d : PyData} (h : Rp K H v d) (hf : flatD d = true) : v = valD d ∧ flatV v = true := by
  cases h <;> first | exact ⟨rfl, rfl⟩ | cases hf
theorem flat_vals {K : PySem.W.Frag} {H : Hp} : ∀ {vs : List V} {ds : List PyData}, RpA K H vs ds → ds.all flatD = true → vs = ds.map valD ∧ vs.all flatV = true
  | _, _, .nil, _ => ⟨rfl, rfl⟩
  | _, _, .cons h r, hf => by
    rw [List.all_cons, Bool.and_eq_true] at hf
    obtain ⟨h1, h2⟩ := flat_val h hf.1
    obtain ⟨h3, h4⟩ := flat_vals r hf.2
    rw [List.map_cons, ← h1, ← h3]
    exact ⟨rfl, by rw [List.all_cons, h2, h4]; rfl⟩
theorem op2_in {c1 c2 : Cell} (h : ∃ d ds, c1 = .dat d ∧ (c2 = .dat (.tuple ds) ∨ c2 = .dat (.list ds)) ∧ flatD d = true ∧ ds.all flatD = true ∧ Φ ω (.dat (.bool (inD d ds)))) : Op2 X (rIn X.K false) ω δ c1 c2 Φ := fun x y σ H Q s o1 o2 q => by
  obtain ⟨d, ds, e1, e2, h1, h2, f⟩ := h
  subst e1
  obtain ⟨g1, g2⟩ := flat_val o1 h1
  rcases e2 with rfl | rfl
  · cases o2 with
    | tup hl r =>
      obtain ⟨g3, g4⟩ := flat_vals r h2
      exact ⟨_, _, rfl, .inr (sqt_hid hl), g2, g4, by rw [if_neg (by decide), g1, g3]; exact q ω _ _ H f s (Kp.refl _ _) (Rp.bl _)⟩
  · cases o2 with
    | lst hl r =>
      obtain ⟨g3, g4⟩ := flat_vals r h2
      exact ⟨_, _, rfl, .inl (SqL.of (hid_some hl).2), g2, g4, by rw [if_neg (by decide), g1, g3]; exact q ω _ _ H f s (Kp.refl _ _) (Rp.bl _)⟩
theorem n_in (hm : behindInMarks .In b = false) (h : N X ω δ a fun ω1 c1 => N X ω1 δ b fun ω2 c2 => ∃ d ds, c1 = .dat d ∧ (c2 = .dat (.tuple ds) ∨ c2 = .dat (.list ds)) ∧ flatD d = true ∧ ds.all flatD = true ∧ Φ ω2 (.dat (.bool (inD d ds)))) : N X ω δ (.Compare a [.In] [b] pos) Φ :=
  n_cop op_in_seq hm (h.imp fun _ _ h1 => h1.imp fun _ _ h2 => op2_in h2)
/-- a < b < c and their likes over ints -/
theorem n_chainI {op op' : CmpOp} {g g' : Int → Int → Bool} (ho : OpR X (compareOp op) (rI0 fun i j => .bl (g i j))) (ho' : OpR X (compareOp op') (rI0 fun i j => .bl (g' i j)))
    (h : N X ω δ a fun ω1 c1 => N X ω1 δ b fun ω2 c2 => ∃ i j, c1 = .dat (.int i) ∧ c2 = .dat (.int j) ∧ if g i j = true then N X ω2 δ c (fun ω3 c3 => ∃ k, c3 = .dat (.int k) ∧ Φ ω3 (.dat (.bool (g' j k)))) else Φ ω2 (.dat (.bool false)))
    (hl : lastMarks [op, op'] [b, c] = false := by rfl) : N X ω δ (.Compare a [op, op'] [b, c] pos) Φ :=
  n_lift (pe_chain ho ho' (WE.pe X a) (WE.pe X b) (WE.pe X c) hl) fun σ H Q s q => h σ H _ s fun ω1 c1 v1 H1 f1 s1 k1 o1 => f1 σ H1 _ s1 fun ω2 c2 v2 H2 ⟨i, j, e1, e2, f2⟩ s2 k2 o2 => by
    subst e1; subst e2
    cases int_of o1; cases int_of o2
    refine ⟨i, j, rfl, rfl, g i j, rfl, ?_⟩
    cases hg : g i j with
    | true =>
      rw [hg] at f2
      exact f2 σ H2 _ s2 fun ω3 c3 v3 H3 ⟨k, e3, f3⟩ s3 k3 o3 => by
        subst e3
        cases int_of o3
        exact ⟨j, k, rfl, rfl, q ω3 _ _ H3 f3 s3 (k1.trans (k2.trans k3)) (Rp.bl _)⟩
    | false =>
      rw [hg] at f2
      exact q ω2 _ _ H2 f2 s2 (k1.trans k2) (Rp.bl false)
end
end DL

namespace DL
open PySem PySem.Spec L2
/-! ## promises over data -/
abbrev Con := List Cell → Ow → (Ow → Cell → Prop) → Prop
def spD (K : PySem.W.Frag) (C : Con) : Sp := fun vs H Q _ => ∃ ω cs Φ, Cells K (dom ω) H vs cs ∧ OwnOk K ω H ∧ C cs ω Φ ∧ ∀ ω' c v H', Φ ω' c → OwnOk K ω' H' → Kp (dom ω) H (dom ω') H' → CellOk K (dom ω') H' v c → Q v H'
theorem Cells.len {K : PySem.W.Frag} {O : List Addr} {H : Hp} : ∀ {vs : List V} {cs : List Cell}, Cells K O H vs cs → vs.length = cs.length
  | _, _, .nil => rfl
  | _, _, .cons _ r => by simp [Cells.len r]
/-- a plain promise: data in, one datum out -/
def pureC (F : List PyData → Option PyData) : Con := fun cs ω Φ => ∃ ds d, cs = dats ds ∧ F ds = some d ∧ Φ ω (.dat d)
def startE (N : List Str) (cs : List Cell) : Env := cs.map some ++ List.replicate (N.length - cs.length) none
theorem env_blank {K : PySem.W.Frag} {O : List Addr} {H : Hp} : ∀ n : Nat, EnvOk K O H (List.replicate n none) (List.replicate n none)
  | 0 => trivial
  | n + 1 => ⟨fun x q => (nomatch q), env_blank n⟩
theorem env_start {K : PySem.W.Frag} {O : List Addr} {H : Hp} : ∀ {vs : List V} {cs : List Cell} (n : Nat), Cells K O H vs cs → EnvOk K O H (vs.map some ++ List.replicate n none) (cs.map some ++ List.replicate n none)
  | _, _, n, .nil => env_blank n
  | _, _, n, .cons h r => ⟨fun x q => by cases q; exact ⟨_, rfl, h⟩, env_start n r⟩
section
variable {P : Program} {w : World} {K : PySem.W.Frag} {mg : Str → Option Value} {base : Heap} {x qual : Str} {st : Stmt} {f : Addr} {fd : FuncData} {Nm ps : List Str} {k : Nat} {C : Con}
/-- a def of the program: its promise, by its body -/
theorem okD (F : Fun K x qual st f fd) (sc : FnScope Nm ps (defScope st)) (len : ∀ cs ω Φ, C cs ω Φ → cs.length = ps.length)
    (body : ∀ (X : Cx) (cdv : Value) (A : Around) (outer : List PySem.Env) (s : Shared) (H : Hp) (E : XK), X = (cxOf CX0 P w K mg base Nm qual (defScope st) f cdv A outer s H E).nox → Room k X.A → ∀ cs ω Φ, C cs ω Φ → B X ω (startE Nm cs) (defBody st) { nx := fun ω' _ => Φ ω' (.dat .none), rt := Φ }) :
    FnOk P w K mg base CX0 (k + 1) f fd ps (spD K C) := by
  refine F.ok sc (fun vs H Q E ⟨ω, cs, Φ, h1, _, h3, _⟩ => h1.len.trans (len _ _ _ h3)) fun cdv A outer s H vs Q E hr ⟨ω, cs, Φ, h1, h2, h3, h4⟩ => ?_
  refine ⟨_, WB.pss _ _, body _ cdv A outer s H E rfl hr cs ω Φ h3 (L2.start Nm vs) H _ ⟨?_, h2⟩ ⟨fun ω' δ' σ' H' q s' k' => h4 ω' _ _ H' q s'.own k' Rp.non, fun ω' c v H' q s' k' o => h4 ω' c v H' q s' k' o, fun _ _ _ _ z => z.elim, fun _ _ _ _ z => z.elim⟩⟩
  unfold L2.start startE
  rw [h1.len]
  exact env_start _ h1
end
/-- a promise that a def keeps where nothing is being shown (repr is free to be asked) -/
structure FnG (P : Program) (w : World) (K : PySem.W.Frag) (mg : Str → Option Value) (base : Heap) (k : Nat) (f : Addr) (fd : FuncData) (ps : List Str) (sp : Sp) : Prop where
  len : ∀ vs H Q E, sp vs H Q E → vs.length = ps.length
  run : ∀ (A : Around) (outer : List PySem.Env) (s : Shared) (H : Hp) (args : Args) (us : List Value) (vs : List V) (Q : VK) (E : XK), A.guards = some [] → Room k A → Env0 P w K mg base A outer s H → BindsTo s fd args (ps.zip us) → Vals vs us → sp vs H Q E →
    codeAny (model P w) A (.call (.ref f) args) (CR CX0 outer P w H s Q E) s
theorem FnG.of {P : Program} {w : World} {K : PySem.W.Frag} {mg : Str → Option Value} {base : Heap} {k : Nat} {f : Addr} {fd : FuncData} {ps : List Str} {sp : Sp} (h : FnOk P w K mg base CX0 k f fd ps sp) : FnG P w K mg base k f fd ps sp :=
  ⟨h.len, fun A outer s H args us vs Q E _ => h.run A outer s H args us vs Q E⟩
theorem FnG.mono {P : Program} {w : World} {K : PySem.W.Frag} {mg : Str → Option Value} {base : Heap} {j k : Nat} {f : Addr} {fd : FuncData} {ps : List Str} {sp : Sp} (h : FnG P w K mg base j f fd ps sp) (l : j ≤ k) : FnG P w K mg base k f fd ps sp :=
  ⟨h.len, fun A outer s H args us vs Q E g r => h.run A outer s H args us vs Q E g (r.mono l)⟩
section
variable {P : Program} {w : World} {K : PySem.W.Frag} {mg : Str → Option Value} {base : Heap} {x qual : Str} {st : Stmt} {f : Addr} {fd : FuncData} {Nm ps : List Str} {k : Nat} {C : Con}
theorem okG (F : Fun K x qual st f fd) (sc : FnScope Nm ps (defScope st)) (len : ∀ cs ω Φ, C cs ω Φ → cs.length = ps.length)
    (body : ∀ (X : Cx) (cdv : Value) (A : Around) (outer : List PySem.Env) (s : Shared) (H : Hp) (E : XK), X = (cxOf CX0 P w K mg base Nm qual (defScope st) f cdv A outer s H E).nox → X.A.guards = some [] → Room k X.A → ∀ cs ω Φ, C cs ω Φ → B X ω (startE Nm cs) (defBody st) { nx := fun ω' _ => Φ ω' (.dat .none), rt := Φ }) :
    FnG P w K mg base (k + 1) f fd ps (spD K C) := by
  have ln : ∀ vs H Q E, spD K C vs H Q E → vs.length = ps.length := fun vs H Q E ⟨ω, cs, Φ, h1, _, h3, _⟩ => h1.len.trans (len _ _ _ h3)
  obtain ⟨oc, od, kV, doc, pm, an, cdv, ct, osl, rfl, lk, hcd⟩ := F.ex
  refine ⟨ln, fun A outer s H args us vs Q E hgd hroom en hbi hv hs => ?_⟩
  have hlen := ln _ _ _ _ hs
  have inK : K.In s.heap := en.mod.kin.keeps fun b o z => (en.bs b o z).1
  have nolim : s.heap.NoLimit := en.mod.nolimit.keeps fun b o z => (en.bs b o z).1
  have kinds : ∀ y ∈ ps.zip us, (defScope st).names.lookup y.1 = some .local ∨ ((defScope st).names.lookup y.1 = some .cell ∧ ((cellsFrom (s.heap.objs.size + 1) (defScope st).names []).lookup y.1).isSome = true) := by
    rintro ⟨n, v⟩ hy
    exact (sc.par n (List.of_mem_zip hy).1).imp id fun z => ⟨z, PySem.W.cellsFrom_some _ _ _ (.inl z)⟩
  refine codeAny_call_function hroom.depth (inK _ _ lk) rfl sc.co sc.gen rfl (PySem.W.codeRec_of inK hcd) (hbi _ _ _ _ ?_)
  refine wpAny_newFunctionEnv_cells sc.kind kinds ?_
  rintro env rfl s1 inC
  refine ⟨nolim.keeps inC.toInCall.keep, codeAny_func ?_⟩
  obtain ⟨ω, cs, Φ, h1, h2, h3, h4⟩ := hs
  have I := inv_start (CX := CX0) (P := P) (mg := mg) (base := base) (N := Nm) (E := E) sc hroom.hd en hlen hv inC
  have hb := body _ cdv A outer s H E rfl hgd (hroom.deeper _) cs ω Φ h3 (L2.start Nm vs) H { nx := fun _ H' => Q .non H', rt := Q }
    ⟨by unfold L2.start startE; rw [h1.len]; exact env_start _ h1, h2⟩ ⟨fun ω' δ' σ' H' q s' k' => h4 ω' _ _ H' q s'.own k' Rp.non, fun ω' c v H' q s' k' o => h4 ω' c v H' q s' k' o, fun _ _ _ _ z => z.elim, fun _ _ _ _ z => z.elim⟩
  refine wpAny_mono (hb [] s1 (I.wish _)) (fun fl s' z => ?_) fun e s' z => z.elim
  cases fl with
  | ret u =>
    obtain ⟨v, σ', H', J, rv, q⟩ := z
    exact ⟨v, H', J.os, J.bare, J.base, J.hok, rv, q⟩
  | next =>
    obtain ⟨σ', H', J, q⟩ := z
    exact ⟨.non, H', J.os, J.bare, J.base, J.hok, rfl, q⟩
  | brk =>
    obtain ⟨_, _, _, q⟩ := z
    exact q.elim
  | cont =>
    obtain ⟨_, _, _, q⟩ := z
    exact q.elim
end
section
variable {X : Cx} {ω : Ow} {δ : Env} {e a b c : Expr} {rest es : List Expr} {Φ : Ow → Cell → Prop} {pos p1 : Pos} {x : Str} {k : Nat} {f : Addr} {fd : FuncData} {ps : List Str} {C : Con}
/-- f(e, ..) of a def with a promise over data -/
theorem n_call (G : FnOk X.prog X.w X.K X.mg X.base CX0 k f fd ps (spD X.K C)) (hr : Room k X.A) (hm : X.mg x = some (.ref f)) (hk : PySem.W.keepIn X.K (.ref f) = true) (hb : Binds X.K fd ps []) (h : NA X ω δ (e :: es) fun ω1 cs => C cs ω1 Φ) (hg : Gl X x := by rfl)
    (hdb : (x == ("__debug__" : Str)) = false := by decide) (he : starEach (e :: es) X.env = (false, eval e X.env) :: starEach es X.env := by rfl) (hpl : (backTo pos (starEach es X.env)).any (·.1) = false := by rfl) : N X ω δ (.Call (.Name x p1) (e :: es) [] pos) Φ :=
  n_lift (pe_call G hr hg hm hk hb .nil (pass0 (X := X)) (WA.pa X _) hdb he hpl) fun σ H Q s q => h σ H _ s fun ω1 cs vs H1 f1 s1 k1 o1 => by
    refine ⟨ω1, cs, Φ, by rw [List.append_nil]; exact o1, s1.own, f1, fun ω2 c v H2 f2 s2 k2 o2 => q ω2 c v H2 f2 ⟨s1.env.mono k2, s2⟩ (k1.trans k2) o2⟩
/-- the same where the def wants that nothing is being shown -/
theorem n_callG (G : FnG X.prog X.w X.K X.mg X.base k f fd ps (spD X.K C)) (hgd : X.A.guards = some []) (hr : Room k X.A) (hm : X.mg x = some (.ref f)) (hk : PySem.W.keepIn X.K (.ref f) = true) (hb : Binds X.K fd ps []) (h : NA X ω δ (e :: es) fun ω1 cs => C cs ω1 Φ) (hg : Gl X x := by rfl)
    (hdb : (x == ("__debug__" : Str)) = false := by decide) (he : starEach (e :: es) X.env = (false, eval e X.env) :: starEach es X.env := by rfl) (hpl : (backTo pos (starEach es X.env)).any (·.1) = false := by rfl) : N X ω δ (.Call (.Name x p1) (e :: es) [] pos) Φ := by
  refine fun σ H Q s q pins s0 I => ?_
  refine wpAny_Call_Name_kw (ld_glob I hg hm ?_ hdb)
  refine PySem.W.callWith_K (h₀ := X.base) I.ok.mod.kin hk (thn (h σ H _ s (fun ω1 cs vs H1 f1 s1 k1 o1 => show (fun vs H1 => ∀ us pins s', Inv X pins σ H1 s' → Vals vs us → wpAny (model X.prog X.w) X.A (call (.ref f) us) (EP X pins σ Q) X.xe s') vs H1 from ?_) pos pins s0 I) ?_) he hpl
  · intro us pins' s' I' rv
    have hsp : spD X.K C vs H1 Q (fun _ _ _ => False) := ⟨ω1, cs, Φ, o1, s1.own, f1, fun ω2 c v H2 f2 s2 k2 o2 => q ω2 c v H2 f2 ⟨s1.env.mono k2, s2⟩ (k1.trans k2) o2⟩
    have hl : (us ++ []).length = ps.length := by rw [List.append_nil, ← rv.length]; exact G.len _ _ _ _ hsp
    have hbs := hb s' us I'.kIn hl
    rw [List.append_nil] at hbs
    refine wpAny_call (codeAny_mono (G.run X.A X.stack s' H1 ⟨us, []⟩ us vs Q _ hgd hr I'.env0 hbs rv hsp) fun r s'' hq => ?_)
    cases r with
    | error z => exact hq.elim
    | ok fl =>
      cases fl with
      | ret u => exact I'.after hq
      | next => exact hq.elim
      | brk => exact hq.elim
      | cont => exact hq.elim
  · rintro us s1 ⟨vs, H1, I1, rv, q1⟩
    exact ⟨I1.kIn, q1 us pins s1 I1 rv⟩
end
/-! ## repr of data -/
section
variable {X : Cx} {pins : List (Addr × Obj)} {σ : St} {H : Hp} {s : Shared}
theorem notMods (I : Inv X pins σ H s) (hm : ∃ m, X.base.Ns sysModules m) {a : Addr} {o : Obj} (ha : s.heap.get? a = some o) (hd : ∀ es ep, o.data ≠ .dict es ep) : a ≠ sysModules := by
  intro e
  subst e
  obtain ⟨m, om, es, ep, h1, h2, _⟩ := hm
  have := I.bk _ _ h1
  rw [ha] at this
  cases this
  exact hd _ _ h2
theorem key_reads {k : Key} {u : Value} (h : keyIs k u = true) (hp : Heap) : Reads hp u (keyD k) [] := by
  rcases keyIs_shape h with ⟨i, t, rfl, rfl⟩ | ⟨y, t, rfl, rfl⟩
  · exact .int i t
  · exact .str y t
theorem rp_reads (I : Inv X pins σ H s) (hm : ∃ m, X.base.Ns sysModules m) : ∀ n, (∀ d : PyData, sizeOf d < n → d.showable = true → ∀ v u, Rp X.K H v d → RelV v u → ∃ as, Reads s.heap u d as ∧ sysModules ∉ as) ∧ (∀ ds : List PyData, sizeOf ds < n → PyData.showableAll ds = true → ∀ vs us, RpA X.K H vs ds → Vals vs us → ∃ as, ReadsAll s.heap us ds as ∧ sysModules ∉ as) ∧
    (∀ ds : List (PyData × PyData), sizeOf ds < n → PyData.showableKv ds = true → ∀ kvs vs es, RpK X.K H kvs ds → KV kvs vs → Pairs (mixKind X.prog X.w) es vs → ∃ bs, ReadsAll s.heap (es.map (·.key)) (ds.map (·.1)) [] ∧ ReadsAll s.heap (es.map (·.val)) (ds.map (·.2)) bs ∧ sysModules ∉ bs) := by
  intro n
  induction n with
  | zero => exact ⟨fun d h => by omega, fun d h => by omega, fun d h => by omega⟩
  | succ n ih =>
    refine ⟨fun d hz hw v u r rv => ?_, fun ds hz hw vs us r rv => ?_, fun ds hz hw kvs vs es r kv pr => ?_⟩
    · cases r with
      | non => cases rv; exact ⟨_, .none, by simp⟩
      | bl b => cases rv; exact ⟨_, .bool b, by simp⟩
      | int i => obtain ⟨t, rfl⟩ := rv; exact ⟨_, .int i t, by simp⟩
      | str y => obtain ⟨t, rfl⟩ := rv; exact ⟨_, .str y t, by simp⟩
      | @lst a xs ds hl hr =>
        cases rv
        obtain ⟨_, its, m, rv2, ho⟩ := I.hok _ _ hl
        obtain ⟨as, h1, h2⟩ := ih.2.1 ds (by simp at hz; omega) (by simpa [PyData.showable] using hw) xs its hr rv2
        refine ⟨_, .list ho rfl rfl (by simpa using h1), ?_⟩
        intro q
        rcases List.mem_cons.mp q with q | q
        · exact notMods I hm ho (fun es ep z => by cases z) q.symm
        · exact h2 q
      | @tup a xs ds hl hr =>
        cases rv
        obtain ⟨its, rv2, ⟨o, ho, hc, m, hd⟩, _⟩ := I.tuple hl
        obtain ⟨as, h1, h2⟩ := ih.2.1 ds (by simp at hz; omega) (by simpa [PyData.showable] using hw) xs its hr rv2
        exact ⟨_, .tuple ho hc hd (by simpa using h1), h2⟩
      | @dic a kvs ds hl hr =>
        cases rv
        obtain ⟨_, hne, vs, kv, o, es, ep, ho, hx, hd, _, pr, _⟩ := I.hok _ _ hl
        obtain ⟨bs, h1, h2, h3⟩ := ih.2.2 ds (by simp at hz; omega) (by simpa [PyData.showable] using hw) kvs vs es.toList hr kv pr
        refine ⟨_, .dict ho hx.1 hd h1 h2, ?_⟩
        intro q
        rcases List.mem_append.mp q with q | q
        · rw [List.mem_singleton.mp q] at hne; simp at hne
        · exact h3 q
      | ins _ _ _ => exact absurd hw (by
          show ¬ (PyData.showableKv _ = true)
          unfold PyData.showableKv
          rw [show insT.showable = false from by unfold insT PyData.showable; exact (by decide +kernel : decide (Nat.log2 (Int.natAbs (2 ^ 2000)) < 1920) = false)]
          simp)
    · cases r with
      | nil => cases rv; exact ⟨_, .nil, by simp⟩
      | @cons v1 vs1 d1 ds1 h1 h2 =>
        have hw' : d1.showable = true ∧ PyData.showableAll ds1 = true := by simpa [PyData.showableAll] using hw
        cases rv with
        | cons r1 r2 =>
          obtain ⟨as, q1, q2⟩ := ih.1 d1 (by simp at hz; omega) hw'.1 _ _ h1 r1
          obtain ⟨bs, q3, q4⟩ := ih.2.1 ds1 (by simp at hz; omega) hw'.2 _ _ h2 r2
          exact ⟨_, .cons q1 q3, fun q => (List.mem_append.mp q).elim q2 q4⟩
    · cases r with
      | nil =>
        cases kv
        cases pr
        exact ⟨_, .nil, .nil, by simp⟩
      | @cons k1 v1 r1 d1 ds1 h1 h2 =>
        cases kv with
        | cons kv1 kv2 =>
          cases pr with
          | cons p1 p2 p3 =>
            have hw' : (keyD k1).showable = true ∧ d1.showable = true ∧ PyData.showableKv ds1 = true := by simpa [PyData.showableKv, and_assoc] using hw
            obtain ⟨bs, q1, q2, q3⟩ := ih.2.2 ds1 (by simp at hz; omega) hw'.2.2 _ _ _ h2 kv2 p3
            obtain ⟨as, q4, q5⟩ := ih.1 d1 (by simp at hz; omega) hw'.2.1 _ _ h1 kv1.2
            refine ⟨as ++ bs, ?_, ?_, fun q => (List.mem_append.mp q).elim q5 q3⟩
            · have e1 : k1 = _ := kv1.1
              rw [← e1] at p1
              have hk := key_reads p1 s.heap
              exact ReadsAll.cons (as := []) (bs := []) hk q1
            · rw [List.map_cons, List.map_cons, p2]
              exact .cons q4 q2
theorem rp_read1 (I : Inv X pins σ H s) (hm : ∃ m, X.base.Ns sysModules m) {d : PyData} {v : V} {u : Value} (hw : d.showable = true) (r : Rp X.K H v d) (rv : RelV v u) : ∃ as, Reads s.heap u d as ∧ sysModules ∉ as := (rp_reads I hm _).1 d (Nat.lt_succ_self _) hw v u r rv
end
end DL

namespace DL
open PySem PySem.Spec L2
/-! ## repr -/
structure Shows (d : PyData) : Prop where
  ok : d.showable = true
  dp : d.depth ≤ 80
  sz : d.shown.length ≤ sizeLine
theorem call_reprD {X : Cx} (hgd : X.A.guards = some []) (hsm : ∃ m, X.base.Ns sysModules m) (hu : X.A.units + 100 < cLine) : CallR X (.builtin "repr") (fun xs H Q => ∃ v d, xs = [v] ∧ Rp X.K H v d ∧ Shows d ∧ Q (.str d.shown) H) := by
  intro pins s σ H xs us Q I rvs h
  obtain ⟨v, d, rfl, r, sh, q⟩ := h
  obtain ⟨u, rfl, rv⟩ := vals1 rvs
  have via : ∀ a, u = .ref a → wpAny (model X.prog X.w) X.A (call (.builtin "repr") [u]) (EP X pins σ Q) X.xe s := fun a e => by
    obtain ⟨as, r1, r2⟩ := rp_read1 I hsm sh.ok r rv
    subst e
    have := sh.dp
    exact repr_of_reads' r1 sh.ok (fun _ => r2) hgd (by omega) (fun _ _ z => z) (fun h' u tk hk => ⟨.str d.shown, H, I.kept hk, ⟨_, rfl⟩, q⟩) sh.sz
  cases r with
  | non => cases rv; exact PySem.P.repr_of_none ⟨.str (Str.ofString "None"), H, I.tok _, ⟨_, rfl⟩, q⟩
  | bl b =>
    cases rv
    refine PySem.P.repr_of_bool ⟨.str (if b = true then Str.ofString "True" else Str.ofString "False"), H, I.tok _, ⟨_, rfl⟩, ?_⟩
    cases b <;> exact q
  | int i =>
    obtain ⟨t, rfl⟩ := rv
    exact PySem.P.repr_of_int (by simpa [PyData.showable] using sh.ok) ⟨.str (Str.ofString (toString i)), H, I.tok _, ⟨_, rfl⟩, q⟩
  | str y =>
    obtain ⟨t, rfl⟩ := rv
    exact PySem.P.repr_of_str ⟨.str (reprText y), H, I.tok _, ⟨_, rfl⟩, q⟩ sh.sz
  | lst _ _ => cases rv; exact via _ rfl
  | tup _ _ => cases rv; exact via _ rfl
  | dic _ _ => cases rv; exact via _ rfl
  | ins _ _ _ => cases rv; exact via _ rfl
section
variable {X : Cx} {ω : Ow} {δ : Env} {e a b c : Expr} {rest es : List Expr} {Φ : Ow → Cell → Prop} {pos p1 p2 p3 : Pos} {x : Str}
theorem n_repr (hgd : X.A.guards = some []) (hsm : ∃ m, X.base.Ns sysModules m) (hu : X.A.units + 100 < cLine) (hm : X.mg "repr" = none) (h : N X ω δ a fun ω1 c => ∃ d, c = .dat d ∧ Shows d ∧ Φ ω1 (.dat (.str d.shown))) (hg : Gl X "repr" := by rfl) (he : starEach [a] X.env = (false, eval a X.env) :: starEach [] X.env := by rfl) : N X ω δ (.Call (.Name "repr" p1) [a] [] pos) Φ :=
  n_callB (call_reprD hgd hsm hu) hm (na_cons (h.imp fun ω1 c ⟨d, e1, sh, f⟩ => na_nil fun vs σ H Q s o q => by
    subst e1
    obtain ⟨v, rfl, ov⟩ := cells1 o
    exact ⟨v, d, rfl, Rp.mono hid_same ov, sh, q ω1 _ _ H f s (Kp.refl _ _) (Rp.str _)⟩) he) hg (he := he)
/-! ## slices -/
def WO (X : Cx) : Option Expr → TO
  | none => tNoPart
  | some e => tPart (WE X e)
theorem WO.po (X : Cx) : ∀ o, PO X o (WO X o)
  | none => po_none
  | some e => po_some (WE.pe X e)
def NO (X : Cx) (ω : Ow) (δ : Env) (o : Option Expr) (Φ : Ow → Option Int → Prop) : Prop := match o with
  | none => Φ ω none
  | some e => N X ω δ e fun ω1 c => ∃ i, c = .dat (.int i) ∧ Φ ω1 (some i)
theorem NO.run {o : Option Expr} {Ψ : Ow → Option Int → Prop} (h : NO X ω δ o Ψ) : ∀ σ H Q, StOk X.K ω δ σ H → (∀ ω' i H', Ψ ω' i → StOk X.K ω' δ σ H' → Kp (dom ω) H (dom ω') H' → Q i H') → WO X o σ H Q := by
  cases o with
  | none => exact fun σ H Q s q => q ω none H h s (Kp.refl _ _)
  | some e =>
    intro σ H Q s q
    refine h σ H _ s fun ω1 c v H1 ⟨i, e1, f1⟩ s1 k1 o1 => ?_
    subst e1
    cases int_of o1
    exact ⟨i, rfl, q ω1 _ H1 f1 s1 k1⟩
def cutD {α : Type} (xs : List α) (lo hi : Option Int) : List α := (xs.drop (HT.sIx xs.length 0 lo)).take (HT.sIx xs.length xs.length hi - HT.sIx xs.length 0 lo)
theorem cut_rp {K : PySem.W.Frag} {H : Hp} {xs : List V} {ds : List PyData} (r : RpA K H xs ds) (lo hi : Option Int) : RpA K H (cutV xs lo hi) (cutD ds lo hi) := by
  unfold cutV cutD
  rw [r.len]
  exact (r.drop _).take _
theorem cut_ints (ns : List Int) (lo hi : Option Int) : cutV (ns.map V.int) lo hi = (cutD ns lo hi).map V.int := by
  unfold cutV cutD
  rw [List.length_map, List.map_take, List.map_drop]
theorem n_slL {lo hi : Option Expr} (h : N X ω δ a fun ω1 c => NO X ω1 δ lo fun ω2 i => NO X ω2 δ hi fun ω3 j => ∃ ds, c = .dat (.list ds) ∧ Φ ω3 (.dat (.list (cutD ds i j)))) : N X ω δ (.Subscript a (.Slice lo hi none p2) pos) Φ :=
  n_lift (pe_slice sl_list (WE.pe X a) (WO.po X lo) (WO.po X hi)) fun σ H Q s q => h σ H _ s fun ω1 c v H1 f1 s1 k1 o1 => f1.run σ H1 _ s1 fun ω2 i H2 f2 s2 k2 => f2.run σ H2 _ s2 fun ω3 j H3 ⟨ds, e1, f3⟩ s3 k3 => by
    subst e1
    cases (o1.mono (k2.trans k3)) with
    | lst hl r => exact ⟨_, _, rfl, SqL.of (hid_some hl).2, fun p hp => q ω3 _ _ _ f3 (s3.new hp) (k1.trans (k2.trans (k3.trans (kp_new s3.own hp)))) (new_lst s3.own hp (cut_rp r i j))⟩
theorem n_slS {lo hi : Option Expr} (h : N X ω δ a fun ω1 c => NO X ω1 δ lo fun ω2 i => NO X ω2 δ hi fun ω3 j => ∃ ns, c = .scr ns ∧ Φ ω3 (.dat (.list ((cutD ns i j).map .int)))) : N X ω δ (.Subscript a (.Slice lo hi none p2) pos) Φ :=
  n_lift (pe_slice sl_list (WE.pe X a) (WO.po X lo) (WO.po X hi)) fun σ H Q s q => h σ H _ s fun ω1 c v H1 f1 s1 k1 o1 => f1.run σ H1 _ s1 fun ω2 i H2 f2 s2 k2 => f2.run σ H2 _ s2 fun ω3 j H3 ⟨ns, e1, f3⟩ s3 k3 => by
    subst e1
    obtain ⟨l, rfl, hl⟩ := o1.mono (k2.trans k3)
    refine ⟨_, _, rfl, sql_hid hl, fun p hp => q ω3 _ _ _ f3 (s3.new hp) (k1.trans (k2.trans (k3.trans (kp_new s3.own hp)))) (new_lst s3.own hp ?_)⟩
    rw [cut_ints]
    exact RpA.ints _
theorem n_slT {lo hi : Option Expr} (h : N X ω δ a fun ω1 c => NO X ω1 δ lo fun ω2 i => NO X ω2 δ hi fun ω3 j => ∃ ds, c = .dat (.tuple ds) ∧ Φ ω3 (.dat (.tuple (cutD ds i j)))) : N X ω δ (.Subscript a (.Slice lo hi none p2) pos) Φ :=
  n_lift (pe_slice sl_tupA (WE.pe X a) (WO.po X lo) (WO.po X hi)) fun σ H Q s q => h σ H _ s fun ω1 c v H1 f1 s1 k1 o1 => f1.run σ H1 _ s1 fun ω2 i H2 f2 s2 k2 => f2.run σ H2 _ s2 fun ω3 j H3 ⟨ds, e1, f3⟩ s3 k3 => by
    subst e1
    have o3 := o1.mono (k2.trans k3)
    cases o3 with
    | tup hl r =>
      refine ⟨_, _, rfl, sqt_hid hl, fun w => ?_, fun _ p hp => q ω3 _ _ _ f3 (s3.new hp) (k1.trans (k2.trans (k3.trans (kp_new s3.own hp)))) (new_tup s3.own hp (cut_rp r i j))⟩
      refine q ω3 _ _ _ f3 s3 (k1.trans (k2.trans k3)) ?_
      have e : cutD ds i j = ds := by
        unfold cutD
        rw [← r.len, w.1, w.2, List.drop_zero, Nat.sub_zero, r.len, List.take_length]
      rw [e]
      exact .tup hl r
/-! ## joined, repeated -/
theorem n_catL (h : N X ω δ a fun ω1 c1 => N X ω1 δ b fun ω2 c2 => ∃ d1 d2, c1 = .dat (.list d1) ∧ c2 = .dat (.list d2) ∧ d1.length + d2.length ≤ 100000 ∧ Φ ω2 (.dat (.list (d1 ++ d2)))) : N X ω δ (.BinOp a .Add b pos) Φ :=
  n_bop op_cat (h.imp fun _ _ h1 => h1.imp fun ω2 _ ⟨d1, d2, e1, e2, z, f⟩ x y σ H Q s o1 o2 q => by
    subst e1; subst e2
    cases o1 with
    | lst h1 r1 =>
      cases o2 with
      | lst h2 r2 =>
        exact ⟨_, _, _, _, rfl, rfl, (hid_some h1).2, (hid_some h2).2, by rw [r1.len, r2.len]; exact Nat.le_trans z (by decide), fun p hp => q ω2 _ _ _ f (s.new hp) (kp_new s.own hp) (new_lst s.own hp (r1.append r2))⟩)
theorem n_catT (h : N X ω δ a fun ω1 c1 => N X ω1 δ b fun ω2 c2 => ∃ d1 d2, c1 = .dat (.tuple d1) ∧ c2 = .dat (.tuple d2) ∧ d1.length + d2.length ≤ 100000 ∧ Φ ω2 (.dat (.tuple (d1 ++ d2)))) : N X ω δ (.BinOp a .Add b pos) Φ :=
  n_bop op_catA (h.imp fun _ _ h1 => h1.imp fun ω2 _ ⟨d1, d2, e1, e2, z, f⟩ x y σ H Q s o1 o2 q => by
    subst e1; subst e2
    cases o1 with
    | tup h1 r1 =>
      cases o2 with
      | tup h2 r2 =>
        refine ⟨_, _, _, _, rfl, rfl, sqt_hid h1, sqt_hid h2, by rw [r1.len, r2.len]; exact Nat.le_trans z (by decide), fun w => ?_, fun _ w => ?_, fun _ _ p hp => q ω2 _ _ _ f (s.new hp) (kp_new s.own hp) (new_tup s.own hp (r1.append r2))⟩
        · subst w
          cases r1
          exact q ω2 _ _ H f s (Kp.refl _ _) (.tup h2 r2)
        · subst w
          cases r2
          rw [List.append_nil] at f
          exact q ω2 _ _ H f s (Kp.refl _ _) (.tup h1 r1))
theorem rep_rp {K : PySem.W.Frag} {H : Hp} {xs : List V} {ds : List PyData} (r : RpA K H xs ds) : ∀ n, RpA K H (List.replicate n xs).flatten (List.replicate n ds).flatten
  | 0 => .nil
  | n + 1 => by rw [List.replicate_succ, List.replicate_succ, List.flatten_cons, List.flatten_cons]; exact r.append (rep_rp r n)
theorem n_repL (h : N X ω δ a fun ω1 c1 => N X ω1 δ b fun ω2 c2 => ∃ ds k, c1 = .dat (.list ds) ∧ c2 = .dat (.int k) ∧ -100000 ≤ k ∧ k ≤ 100000 ∧ ds.length * k.toNat ≤ 100000 ∧ Φ ω2 (.dat (.list (List.replicate k.toNat ds).flatten))) : N X ω δ (.BinOp a .Mult b pos) Φ :=
  n_bop op_rep (h.imp fun _ _ h1 => h1.imp fun ω2 _ ⟨ds, k, e1, e2, z1, z2, z3, f⟩ x y σ H Q s o1 o2 q => by
    subst e1; subst e2
    cases int_of o2
    cases o1 with
    | lst h1 r1 => exact ⟨_, _, _, rfl, rfl, (hid_some h1).2, by omega, by omega, by rw [r1.len]; exact Nat.le_trans z3 (by decide), fun p hp => q ω2 _ _ _ f (s.new hp) (kp_new s.own hp) (new_lst s.own hp (rep_rp r1 _))⟩)
theorem n_addS (h : N X ω δ a fun ω1 c1 => N X ω1 δ b fun ω2 c2 => ∃ y z, c1 = .dat (.str y) ∧ c2 = .dat (.str z) ∧ y.length + z.length ≤ sizeLine ∧ Φ ω2 (.dat (.str (y ++ z)))) : N X ω δ (.BinOp a .Add b pos) Φ :=
  n_bop op_add_str (h.imp fun _ _ h1 => h1.imp fun ω2 _ ⟨y, z, e1, e2, zz, f⟩ v w σ H Q s o1 o2 q => by
    subst e1; subst e2
    cases str_of o1; cases str_of o2
    exact ⟨y, z, rfl, rfl, zz, q ω2 _ _ H f s (Kp.refl _ _) (Rp.str _)⟩)
/-- an owned list, read at a place -/
theorem n_ixO (hp : PlainIx b) (i n : Nat) {p : Addr} (hd : δ[i]? = some (some (.raw (.ref p)))) (h : N X ω δ b fun ω2 c2 => ∃ ds k d, ω2[n]? = some (p, lstP ds) ∧ c2 = .dat (.int k) ∧ atI ds k = some d ∧ Φ ω2 (.dat d)) (hN : X.N[i]? = some x := by rfl)
    (hv : Vis X.env.scope x := by first | exact Or.inl rfl | exact Or.inr (Or.inl rfl) | exact Or.inr (Or.inr rfl)) (hg : (x == ("__debug__" : Str)) = false := by decide) (hcd : (x == ("__classdict__" : Str)) = false := by decide) : N X ω δ (.Subscript (.Name x p1) b pos) Φ :=
  n_lift (pe_ix ix_list (pe_var hN hv hg hcd) (WE.pe X b) hp) fun σ H Q s q => by
    obtain ⟨v, h1, h2⟩ := s.get hd
    cases h2
    refine ⟨_, h1, h σ H _ s fun ω2 c v H2 ⟨ds, k, d, hw, e1, hi, f⟩ s2 k2 o2 => ?_⟩
    subst e1
    cases int_of o2
    obtain ⟨u, g1, vs, rfl, g2⟩ := s2.own.at_ p _ (List.mem_of_getElem? hw)
    obtain ⟨v2, g3, g4⟩ := atI_rp g2 hi
    exact ⟨p, vs, k, v2, rfl, rfl, SqL.of g1, g3, q ω2 _ _ H2 f s2 k2 g4⟩
theorem n_lenO (i n : Nat) {p : Addr} {ds : List PyData} (hm : X.mg "len" = none) (hd : δ[i]? = some (some (.raw (.ref p)))) (hw : ω[n]? = some (p, lstP ds)) (h : Φ ω (.dat (.int (ds.length : Int)))) (hN : X.N[i]? = some x := by rfl)
    (hv : Vis X.env.scope x := by first | exact Or.inl rfl | exact Or.inr (Or.inl rfl) | exact Or.inr (Or.inr rfl)) (hg : (x == ("__debug__" : Str)) = false := by decide) (hcd : (x == ("__classdict__" : Str)) = false := by decide)
    (hgl : Gl X "len" := by rfl) : N X ω δ (.Call (.Name "len" p1) [.Name x p2] [] pos) Φ :=
  n_lift (pe_callB call_len_seq hgl hm (by decide +kernel) (pa_cons (pe_var hN hv hg hcd) pa_nil)) fun σ H Q s q => by
    obtain ⟨v, h1, h2⟩ := s.get hd
    cases h2
    obtain ⟨u, g1, vs, rfl, g2⟩ := s.own.at_ p _ (List.mem_of_getElem? hw)
    exact ⟨_, h1, _, _, rfl, .inl (SqL.of g1), by rw [g2.len]; exact q ω _ _ H h s (Kp.refl _ _) (Rp.int _)⟩
end
section
variable {X : Cx} {ω : Ow} {δ : Env} {e a b c : Expr} {st : Stmt} {rest body orelse : List Stmt} {E : En} {pos p1 p2 p3 : Pos} {x : Str}
theorem atI_ix {α : Type} {ds : List α} {k : Int} {d : α} (h : atI ds k = some d) : ∃ j, ixN ds.length k = some j ∧ ds[j]? = some d := by
  unfold atI at h
  cases q : ixN ds.length k with
  | none => rw [q] at h; cases h
  | some j => rw [q] at h; exact ⟨j, rfl, h⟩

end
end DL

namespace DL
open PySem PySem.Spec L2
section
variable {X : Cx} {ω : Ow} {δ : Env} {e a b c : Expr} {st : Stmt} {rest body orelse : List Stmt} {E : En} {pos p1 p2 p3 : Pos} {x : Str}
/-- o[k] = e, o an owned list -/
theorem s_setO (i n : Nat) {p : Addr} (hd : δ[i]? = some (some (.raw (.ref p)))) (h : N X ω δ e fun ω1 c1 => N X ω1 δ b fun ω2 c2 => ∃ ds d k j, ω2[n]? = some (p, lstP ds) ∧ c1 = .dat d ∧ c2 = .dat (.int k) ∧ ixN ds.length k = some j ∧ E.nx (ω2.set n (p, lstP (ds.set j d))) δ) (hN : X.N[i]? = some x := by rfl)
    (hs : swapsWithSole [.Subscript (.Name x p1) b p2] e pos.line X.env = pure false := by rfl) (hw : swappedStores [.Subscript (.Name x p1) b p2] e X.env = pure none := by rfl) (h1 : (assignEach [.Subscript (.Name x p1) b p2] X.env).map (·.2) = [assign (.Subscript (.Name x p1) b p2) X.env] := by rfl)
    (ha : ∀ v, assign (.Subscript (.Name x p1) b p2) X.env v = (do
      let ov ← holding [v] (eval (.Name x p1) X.env)
      let iv ← holding [v, ov] (eval b X.env)
      standAt p2
      holding [v, ov, iv] (setItem ov iv v)
      release [v, ov, iv] []) := by intro _; rfl)
    (hv : Vis X.env.scope x := by first | exact Or.inl rfl | exact Or.inr (Or.inl rfl) | exact Or.inr (Or.inr rfl)) (hg : (x == ("__debug__" : Str)) = false := by decide) (hcd : (x == ("__classdict__" : Str)) = false := by decide) : S X ω δ (.Assign [.Subscript (.Name x p1) b p2] e pos) E := fun σ H D s f =>
  WS.of (ps_asg (WE.pe X e) (pg_sub (pe_var hN hv hg hcd) (WE.pe X b) set_list ha) hs hw h1) (h σ H _ s fun ω1 c1 v1 H1 f1 s1 k1 o1 => by
    obtain ⟨v, g1, g2⟩ := s1.get hd
    cases g2
    refine ⟨_, g1, f1 σ H1 _ s1 fun ω2 c2 v2 H2 ⟨ds, d, k, j, hw2, e1, e2, hj, q⟩ s2 k2 o2 => ?_⟩
    subst e1; subst e2
    cases int_of o2
    obtain ⟨u, m1, vs, rfl, m2⟩ := s2.own.at_ p _ (List.mem_of_getElem? hw2)
    have m3 : Rp X.K (hid (dom ω2) H2) v1 d := o1.mono (c := .dat d) k2
    refine ⟨p, vs, k, j, rfl, rfl, m1, by rw [m2.len]; exact hj, ?_⟩
    exact f.nx _ _ _ _ q (s2.put hw2 ⟨_, rfl, m2.set m3 j⟩) (by rw [dom_set hw2]; exact (k1.trans k2).trans (kp_upd (mem_dom hw2))))
/-- o[k], by values, k from 0 on -/
def getN (K : PySem.W.Frag) : V → V → Hp → VK → Prop := fun o i H Q => ∃ p xs k v, o = .ref p ∧ i = .int k ∧ SqL K H p xs ∧ 0 ≤ k ∧ k < 2 ^ 63 ∧ xs[k.toNat]? = some v ∧ Q v H
theorem get_lst : PGet X (getN X.K) := by
  rintro pins s σ H o i ov iv Q I ro ri ⟨p, xs, k, v, rfl, rfl, hl, h0, h1, hv, q⟩
  cases ro
  obtain ⟨t, rfl⟩ := ri
  obtain ⟨its, r, pl, _⟩ := I.list hl
  obtain ⟨u, hu, ru⟩ := r.get hv
  exact wpAny_getItem_list pl.isList h0 h1 (by simpa using hu) ⟨v, H, I, ru, q⟩
/-- o[k] += e, ints, o an owned list -/
theorem s_augO (i n : Nat) {p : Addr} (hd : δ[i]? = some (some (.raw (.ref p)))) (h : N X ω δ b fun ω1 c1 => ∃ ds k m, ω1[n]? = some (p, lstP ds) ∧ c1 = .dat (.int k) ∧ 0 ≤ k ∧ k < 1000000 ∧ ds[k.toNat]? = some (.int m) ∧
      N X ω1 δ e fun ω2 c2 => ∃ l, ω2[n]? = some (p, lstP ds) ∧ c2 = .dat (.int l) ∧ E.nx (ω2.set n (p, lstP (ds.set k.toNat (.int (m + l))))) δ) (hN : X.N[i]? = some x := by rfl)
    (ha : ∀ ov iv new, augStore b ov iv new = (do holding [new, ov, iv] (setItem ov iv new); release [new, ov, iv] []; pure .next) := by intros; rfl)
    (hv : Vis X.env.scope x := by first | exact Or.inl rfl | exact Or.inr (Or.inl rfl) | exact Or.inr (Or.inr rfl)) (hg : (x == ("__debug__" : Str)) = false := by decide) (hcd : (x == ("__classdict__" : Str)) = false := by decide) : S X ω δ (.AugAssign (.Subscript (.Name x p1) b p2) .Add e pos) E := fun σ H D s f =>
  WS.of (ps_augS (pe_var hN hv hg hcd) (WE.pe X b) get_lst (WE.pe X e) ip_add set_list ha) (by
    obtain ⟨v, g1, g2⟩ := s.get hd
    cases g2
    refine ⟨_, g1, h σ H _ s fun ω1 c1 v1 H1 ⟨ds, k, m, hw, e1, h0, h1, hk, f1⟩ s1 k1 o1 => ?_⟩
    subst e1
    cases int_of o1
    obtain ⟨u, m1, vs, rfl, m2⟩ := s1.own.at_ p _ (List.mem_of_getElem? hw)
    obtain ⟨w, m3, m4⟩ := m2.get hk
    cases m4
    refine ⟨p, vs, k, _, rfl, rfl, SqL.of m1, h0, by omega, m3, f1 σ H1 _ s1 fun ω2 c2 v2 H2 ⟨l, hw2, e2, q⟩ s2 k2 o2 => ?_⟩
    subst e2
    cases int_of o2
    obtain ⟨u2, n1, vs2, rfl, n2⟩ := s2.own.at_ p _ (List.mem_of_getElem? hw2)
    have hlt : k.toNat < vs2.length := by rw [n2.len]; exact (List.getElem?_eq_some_iff.mp hk).1
    refine ⟨m, l, rfl, rfl, p, vs2, k, k.toNat, rfl, rfl, n1, ?_, ?_⟩
    · unfold ixN
      rw [if_pos h0, if_pos (by omega)]
    · exact f.nx _ _ _ _ q (s2.put hw2 ⟨_, rfl, n2.set (Rp.int _) k.toNat⟩) (by rw [dom_set hw2]; exact (k1.trans k2).trans (kp_upd (mem_dom hw2))))
/-- o.append(e), o an owned list -/
theorem s_appendO (i n : Nat) {p : Addr} (hd : δ[i]? = some (some (.raw (.ref p)))) (hw0 : ∃ ds, ω[n]? = some (p, lstP ds)) (h : N X ω δ e fun ω1 c1 => ∃ ds d, ω1[n]? = some (p, lstP ds) ∧ c1 = .dat d ∧ ds.length < 100000 ∧ E.nx (ω1.set n (p, lstP (ds ++ [d]))) δ) (hN : X.N[i]? = some x := by rfl)
    (hs : swapsWith (.Call (.Attribute (.Name x p1) "append" p2) [e] [] p3) none pos.line X.env = pure false := by rfl)
    (hbase : attributeBase (.Name x p1) "append" X.env (eval (.Name x p1) X.env) = eval (.Name x p1) X.env := by rfl)
    (hfew : ((backTo p3 (starEach [e] X.env)).all (fun x => !x.1) && (backToKw p3 (keywordEach [] X.env)).all (fun x => x.1.isSome)
      && decide ([e].length + ([] : List Keyword).length + (if ([] : List Keyword).isEmpty then 0 else 1) < 30)) = true := by rfl)
    (hline : (p2.endLine == p3.line) = true := by rfl) (hst : starEach [e] X.env = (false, eval e X.env) :: starEach [] X.env := by rfl) (hplain : (backTo p3 (starEach [] X.env)).any (·.1) = false := by rfl)
    (hv : Vis X.env.scope x := by first | exact Or.inl rfl | exact Or.inr (Or.inl rfl) | exact Or.inr (Or.inr rfl)) (hg : (x == ("__debug__" : Str)) = false := by decide) (hcd : (x == ("__classdict__" : Str)) = false := by decide) :
    S X ω δ (.Expr (.Call (.Attribute (.Name x p1) "append" p2) [e] [] p3) pos) E := fun σ H D s f =>
  WS.of (ps_expr (pe_bm PySem.F.plainAttrs_list PySem.F.slot_list_append PySem.F.type_list_append mt_append (pe_var hN hv hg hcd) (pa_cons (WE.pe X e) pa_nil hst) hbase hfew hline hst hplain) hs) (by
    obtain ⟨v, g1, g2⟩ := s.get hd
    cases g2
    obtain ⟨ds0, hw0⟩ := hw0
    obtain ⟨u0, a1, vs0, rfl, a2⟩ := s.own.at_ p _ (List.mem_of_getElem? hw0)
    refine ⟨_, g1, .inl ⟨rfl, _, SqL.of a1⟩, h σ H _ s fun ω1 c1 v1 H1 ⟨ds, d, hw, e1, hz, q⟩ s1 k1 o1 => ?_⟩
    subst e1
    obtain ⟨u, m1, vs, rfl, m2⟩ := s1.own.at_ p _ (List.mem_of_getElem? hw)
    refine ⟨p, vs, _, rfl, rfl, m1, by rw [m2.len]; exact Nat.lt_of_lt_of_le hz (by decide), ?_⟩
    exact f.nx _ _ _ _ q (s1.put hw ⟨_, rfl, m2.append (.cons o1 .nil)⟩) (by rw [dom_set hw]; exact k1.trans (kp_upd (mem_dom hw))))
/-! ## loops -/
/-- for x in a list (or tuple) that is a datum; x in slot j -/
theorem s_forD (j : Nat) {iter : Expr} (hp : PassesOwn (model X.prog X.w) X.A X.env X.xe) (hc : X.calm = true) (hn : X.N.Nodup)
    (h : N X ω δ iter fun ω1 c => ∃ ds, c = .dat (.list ds) ∧ ∃ I : Nat → Ow → Env → Prop, I 0 ω1 δ ∧
      (∀ i ω2 δ2 d, ds[i]? = some d → I i ω2 δ2 → B X ω2 (δ2.set j (some (.dat d))) body { nx := I (i + 1), ct := I (i + 1), bk := E.nx, rt := E.rt }) ∧ ∀ ω2 δ2, I ds.length ω2 δ2 → E.nx ω2 δ2)
    (hN : X.N[j]? = some x := by rfl) (hx : Loc X.env.scope x := by first | exact Or.inl rfl | exact Or.inr rfl) (hf : X.fn x = true ∨ X.env.scope.names.lookup x = some .local := by first | exact .inl rfl | exact .inr rfl | assumption)
    (hs : ∀ x, foldedSetIterable iter X.env x = pure x := by intro _; rfl) : S X ω δ (.For (.Name x p1) iter body [] pos) E := fun σ H D s f =>
  WS.of (ps_for hp hc (pi_list (WE.pe X iter)) (pg_name hn hN hx hf) (WB.pss X body) hs) (h σ H _ s fun ω1 c v H1 ⟨ds, e1, I, i0, it, ie⟩ s1 k1 o1 => by
    subst e1
    cases o1 with
    | @lst a xs _ hl hr =>
      refine ⟨a, rfl, ⟨xs, SqL.of (hid_some hl).2⟩, for_list (K := X.K) (a := a) (xs := xs) (fun i σ' H' => ∃ ω2 δ2, I i ω2 δ2 ∧ StOk X.K ω2 δ2 σ' H' ∧ Kp (dom ω1) H1 (dom ω2) H') ⟨ω1, δ, i0, s1, Kp.refl _ _⟩ ?_ ?_ ?_⟩
      · rintro i σ' H' _ ⟨ω2, δ2, _, _, k2⟩
        exact SqL.of (hid_some (k2 _ _ hl)).2
      · rintro i y σ' H' hy ⟨ω2, δ2, hi, s2, k2⟩
        obtain ⟨d, hd, rd⟩ := hr.get' hy
        refine it i ω2 δ2 d hd hi _ _ _ (s2.store j (c := .dat d) (rd.mono k2)) ⟨fun ω3 δ3 σ3 H3 q s3 k3 => ⟨ω3, δ3, q, s3, k2.trans k3⟩, fun ω3 c v H3 q s3 k3 o3 => f.rt ω3 c v H3 q s3 (k1.trans (k2.trans k3)) o3, fun ω3 δ3 σ3 H3 q s3 k3 => f.nx ω3 δ3 σ3 H3 q s3 (k1.trans (k2.trans k3)), fun ω3 δ3 σ3 H3 q s3 k3 => ⟨ω3, δ3, q, s3, k2.trans k3⟩⟩
      · rintro σ' H' ⟨ω2, δ2, hi, s2, k2⟩
        rw [hr.len] at hi
        exact f.nx ω2 δ2 σ' H' (ie ω2 δ2 hi) s2 (k1.trans k2))
theorem s_forT (j : Nat) {iter : Expr} (hp : PassesOwn (model X.prog X.w) X.A X.env X.xe) (hc : X.calm = true) (hn : X.N.Nodup)
    (h : N X ω δ iter fun ω1 c => ∃ ds, c = .dat (.tuple ds) ∧ ∃ I : Nat → Ow → Env → Prop, I 0 ω1 δ ∧
      (∀ i ω2 δ2 d, ds[i]? = some d → I i ω2 δ2 → B X ω2 (δ2.set j (some (.dat d))) body { nx := I (i + 1), ct := I (i + 1), bk := E.nx, rt := E.rt }) ∧ ∀ ω2 δ2, I ds.length ω2 δ2 → E.nx ω2 δ2)
    (hN : X.N[j]? = some x := by rfl) (hx : Loc X.env.scope x := by first | exact Or.inl rfl | exact Or.inr rfl) (hf : X.fn x = true ∨ X.env.scope.names.lookup x = some .local := by first | exact .inl rfl | exact .inr rfl | assumption)
    (hs : ∀ x, foldedSetIterable iter X.env x = pure x := by intro _; rfl) : S X ω δ (.For (.Name x p1) iter body [] pos) E := fun σ H D s f =>
  WS.of (ps_for hp hc (pi_tup (WE.pe X iter)) (pg_name hn hN hx hf) (WB.pss X body) hs) (h σ H _ s fun ω1 c v H1 ⟨ds, e1, I, i0, it, ie⟩ s1 k1 o1 => by
    subst e1
    cases o1 with
    | @tup a xs _ hl hr =>
      refine ⟨a, rfl, ⟨xs, sqt_hid hl⟩, for_tup (K := X.K) (a := a) (xs := xs) (fun i σ' H' => ∃ ω2 δ2, I i ω2 δ2 ∧ StOk X.K ω2 δ2 σ' H' ∧ Kp (dom ω1) H1 (dom ω2) H') ⟨ω1, δ, i0, s1, Kp.refl _ _⟩ ?_ ?_ ?_⟩
      · rintro i σ' H' _ ⟨ω2, δ2, _, _, k2⟩
        exact sqt_hid (seqT k2 hl)
      · rintro i y σ' H' hy ⟨ω2, δ2, hi, s2, k2⟩
        obtain ⟨d, hd, rd⟩ := hr.get' hy
        refine it i ω2 δ2 d hd hi _ _ _ (s2.store j (c := .dat d) (rd.mono k2)) ⟨fun ω3 δ3 σ3 H3 q s3 k3 => ⟨ω3, δ3, q, s3, k2.trans k3⟩, fun ω3 c v H3 q s3 k3 o3 => f.rt ω3 c v H3 q s3 (k1.trans (k2.trans k3)) o3, fun ω3 δ3 σ3 H3 q s3 k3 => f.nx ω3 δ3 σ3 H3 q s3 (k1.trans (k2.trans k3)), fun ω3 δ3 σ3 H3 q s3 k3 => ⟨ω3, δ3, q, s3, k2.trans k3⟩⟩
      · rintro σ' H' ⟨ω2, δ2, hi, s2, k2⟩
        rw [hr.len] at hi
        exact f.nx ω2 δ2 σ' H' (ie ω2 δ2 hi) s2 (k1.trans k2))
/-- for x in range(n) -/
theorem s_forR (j : Nat) (hp : PassesOwn (model X.prog X.w) X.A X.env X.xe) (hc : X.calm = true) (hn : X.N.Nodup) (hm : X.mg "range" = none)
    (h : N X ω δ a fun ω1 c => ∃ n, c = .dat (.int n) ∧ -1000000 ≤ n ∧ n ≤ 1000000 ∧ ∃ I : Nat → Ow → Env → Prop, I 0 ω1 δ ∧
      (∀ i ω2 δ2, i < n.toNat → I i ω2 δ2 → B X ω2 (δ2.set j (some (.dat (.int (i : Int))))) body { nx := I (i + 1), ct := I (i + 1), bk := E.nx, rt := E.rt }) ∧ ∀ ω2 δ2, I n.toNat ω2 δ2 → E.nx ω2 δ2)
    (hg : Gl X "range" := by rfl) (ha : starEach [a] X.env = [(false, eval a X.env)] := by rfl) (hN : X.N[j]? = some x := by rfl) (hx : Loc X.env.scope x := by first | exact Or.inl rfl | exact Or.inr rfl) (hf : X.fn x = true ∨ X.env.scope.names.lookup x = some .local := by first | exact .inl rfl | exact .inr rfl | assumption)
    (hs : ∀ x, foldedSetIterable (.Call (.Name "range" p2) [a] [] p3) X.env x = pure x := by intro _; rfl) : S X ω δ (.For (.Name x p1) (.Call (.Name "range" p2) [a] [] p3) body [] pos) E := fun σ H D s f =>
  WS.of (ps_for hp hc (pi_range1 hg hm (pa_cons (WE.pe X a) pa_nil ha) ha) (pg_name hn hN hx hf) (WB.pss X body) hs) (h σ H _ s fun ω1 c v H1 ⟨n, e1, z1, z2, I, i0, it, ie⟩ s1 k1 o1 => by
    subst e1
    cases int_of o1
    refine ⟨n, rfl, by omega, by omega, for_range (lo := 0) (n := n.toNat) (fun i σ' H' => ∃ ω2 δ2, I i ω2 δ2 ∧ StOk X.K ω2 δ2 σ' H' ∧ Kp (dom ω1) H1 (dom ω2) H') ⟨ω1, δ, i0, s1, Kp.refl _ _⟩ ?_ ?_⟩
    · rintro i σ' H' hi ⟨ω2, δ2, hI, s2, k2⟩
      rw [Int.zero_add]
      refine it i ω2 δ2 hi hI _ _ _ (s2.store j (c := .dat (.int i)) (Rp.int _)) ⟨fun ω3 δ3 σ3 H3 q s3 k3 => ⟨ω3, δ3, q, s3, k2.trans k3⟩, fun ω3 c v H3 q s3 k3 o3 => f.rt ω3 c v H3 q s3 (k1.trans (k2.trans k3)) o3, fun ω3 δ3 σ3 H3 q s3 k3 => f.nx ω3 δ3 σ3 H3 q s3 (k1.trans (k2.trans k3)), fun ω3 δ3 σ3 H3 q s3 k3 => ⟨ω3, δ3, q, s3, k2.trans k3⟩⟩
    · rintro σ' H' ⟨ω2, δ2, hi, s2, k2⟩
      exact f.nx ω2 δ2 σ' H' (ie ω2 δ2 hi) s2 (k1.trans k2))
end
end DL

namespace DL
open PySem PySem.Spec L2
/-! ## comprehensions -/
/-- the frame in which a comprehension's block runs -/
abbrev BlkF (X : Cx) (scope : Scope) (Γ : Cx → Prop) : Prop := ∀ (s : Shared) (H : Hp) (C : Addr) (cl : List (Str × Addr)) (fp : List Addr), Γ (X.blk s H scope (compEnvC scope cl C X.env) fp)
theorem EnvOk.wipe {K : PySem.W.Frag} {O : List Addr} {H : Hp} : ∀ {σ : St} {δ : Env} (i : Nat), EnvOk K O H σ δ → EnvOk K O H (σ.set i none) (δ.set i none)
  | [], [], _, _ => trivial
  | _ :: _, _ :: _, 0, ⟨_, r⟩ => ⟨fun x q => (nomatch q), r⟩
  | _ :: _, _ :: _, i + 1, ⟨h, r⟩ => ⟨h, EnvOk.wipe i r⟩
  | [], _ :: _, _, h => h.elim
  | _ :: _, [], _, h => h.elim
theorem set_wipe {σ : St} {j : Nat} {v : Option V} : ((σ.set j none).set j v).set j none = σ.set j none := by
  rw [List.set_set, List.set_set]
/-- what a turn of the block has to reach: behind the accumulated list D stands what is owned outside -/
def Acc (D : Addr) (J : Ow → List PyData → Prop) (ω : Ow) (acc : List PyData) : Prop := ∃ ω', ω = (D, lstP acc) :: ω' ∧ J ω' acc
section
variable {X : Cx} {ω : Ow} {δ : Env} {e a b c elt iter : Expr} {Φ : Ow → Cell → Prop} {pos p1 p2 p3 : Pos} {x : Str} {scope : Scope}
theorem lc_done {Q : VK} {ω1 : Ow} {σ : St} {H1 H' : Hp} {D : Addr} {acc : List PyData} {ω2 : Ow} (s : StOk X.K ((D, lstP acc) :: ω2) δ σ H') (q : CellOk X.K (dom ω2) H' (.ref D) (.dat (.list acc)) → Q (.ref D) H') : Q (.ref D) H' := q (own_lst s.own)
/-- [elt for x in range(n)] -/
theorem t_lcR (j : Nat)
    (h : N X ω δ a fun ω1 c => ∃ n, c = .dat (.int n) ∧ -1000000 ≤ n ∧ n ≤ 1000000 ∧ ∃ J : Nat → Ow → List PyData → Prop, J 0 ω1 [] ∧
      (∀ i ω2 acc D, i < n.toNat → J i ω2 acc → BlkF X scope fun Y => N Y ((D, lstP acc) :: ω2) ((δ.set j none).set j (some (.dat (.int (i : Int))))) elt fun ω3 c => ∃ d, c = .dat d ∧ acc.length < 100000 ∧ ∃ ω4, ω3 = (D, lstP acc) :: ω4 ∧ J (i + 1) ω4 (acc ++ [d])) ∧
      ∀ ω2 acc, J n.toNat ω2 acc → Φ ω2 (.dat (.list acc))) {σ : St} {H : Hp} {Q : VK} (s : StOk X.K ω δ σ H) (q : ∀ ω' c v H', Φ ω' c → StOk X.K ω' δ σ H' → Kp (dom ω) H (dom ω') H' → CellOk X.K (dom ω') H' v c → Q v H') :
    tLc (iRng1 (tCons (WE X a) tNil)) (gName j) tYes (fun σ H Q => BlkF X scope fun Y => WE Y elt σ H Q) [j] σ H Q :=
  h σ H _ s fun ω1 c v H1 ⟨n, e1, z1, z2, J, j0, jt, je⟩ s1 k1 o1 => by
    subst e1
    cases int_of o1
    refine ⟨n, rfl, by omega, by omega, fun D hD => ?_⟩
    have hD0 : (lstP []).ok X.K (hid (dom ω1) H1) (.lst []) := ⟨[], rfl, .nil⟩
    refine lc_range (lo := 0) (n := n.toNat) (g := gName j) (tt := tYes) (te := fun σ H Q => BlkF X scope fun Y => WE Y elt σ H Q) (vs := [j]) (σ := σ) (H1 := H1) (D := D) (Qd := fun H => Q (.ref D) H) (fun i H' => ∃ ω2 acc, J i ω2 acc ∧ StOk X.K ((D, lstP acc) :: ω2) δ σ H' ∧ Kp (dom ω1) H1 (D :: dom ω2) H') ⟨ω1, [], j0, s1.cons hD hD0, (s1.own.cons hD hD0).2⟩ ?_ ?_
    · rintro i H' hi ⟨ω2, acc, hJ, s2, k2⟩
      refine ⟨set_wipe, fun s3 H3 C cl fp => ?_⟩
      rw [Int.zero_add]
      have sB : StOk X.K ((D, lstP acc) :: ω2) ((δ.set j none).set j (some (.dat (.int (i : Int))))) ((wipe σ [j]).set j (some (.int (i : Int)))) H' := ⟨(s2.env.wipe j).set (c := .dat (.int i)) (Rp.int _) j, s2.own⟩
      refine jt i ω2 acc D hi hJ s3 H3 C cl fp _ _ _ sB fun ω3 c v H4 ⟨d, e1, hz, ω4, e2, hJ'⟩ s4 k4 o4 => ?_
      subst e1; subst e2
      obtain ⟨u, m1, vs, rfl, m2⟩ := s4.own.at_ D _ List.mem_cons_self
      have ho : (lstP (acc ++ [d])).ok X.K (hid (dom ((D, lstP acc) :: ω4)) H4) (.lst (vs ++ [v])) := ⟨_, rfl, m2.append (.cons o4 .nil)⟩
      refine ⟨vs, m1, by rw [m2.len]; exact Nat.lt_of_lt_of_le hz (by decide), ω4, _, hJ', ?_, (k2.trans k4).trans (kp_upd List.mem_cons_self)⟩
      have oo := s4.own.put (i := 0) (p := D) (P := lstP acc) rfl ho
      exact ⟨s2.env.mono (k4.trans (kp_upd List.mem_cons_self)), oo⟩
    · rintro H' ⟨ω2, acc, hJ, s2, k2⟩
      exact q ω2 _ _ H' (je ω2 acc hJ) s2.drop (k1.trans (k2.trans (kp_drop (P := lstP acc)))) (own_lst s2.own)
theorem n_lcR (j : Nat) (hc : X.calm = true) (hn : X.N.Nodup) (hm : X.mg "range" = none) (hb : BlkOk X.N X.env.scope scope [(x, j)])
    (h : N X ω δ a fun ω1 c => ∃ n, c = .dat (.int n) ∧ -1000000 ≤ n ∧ n ≤ 1000000 ∧ ∃ J : Nat → Ow → List PyData → Prop, J 0 ω1 [] ∧
      (∀ i ω2 acc D, i < n.toNat → J i ω2 acc → BlkF X scope fun Y => N Y ((D, lstP acc) :: ω2) ((δ.set j none).set j (some (.dat (.int (i : Int))))) elt fun ω3 c => ∃ d, c = .dat d ∧ acc.length < 100000 ∧ ∃ ω4, ω3 = (D, lstP acc) :: ω4 ∧ J (i + 1) ω4 (acc ++ [d])) ∧
      ∀ ω2 acc, J n.toNat ω2 acc → Φ ω2 (.dat (.list acc)))
    (hgt : BlkF X scope fun Y => PG Y (.Name x p1) (gName j)) (hg : Gl X "range" := by rfl) (ha : starEach [a] X.env = [(false, eval a X.env)] := by rfl)
    (hs : ∀ y, foldedSetIterable (.Call (.Name "range" p2) [a] [] p3) X.env y = pure y := by intro _; rfl) : N X ω δ (.ListComp elt [{ target := .Name x p1, iter := .Call (.Name "range" p2) [a] [] p3, ifs := [], is_async := 0 }] scope pos) Φ :=
  n_lift (pe_lc (own := [(x, j)]) (g := gName j) (te := fun σ H Q => BlkF X scope fun Y => WE Y elt σ H Q) hc hn (pi_range1 hg hm (pa_cons (WE.pe X a) pa_nil ha) ha) hb hgt (fun _ _ _ _ _ => pts_nil) (fun s H C cl fp => ⟨fun pins s' σ' H' Q I q => q s H C cl fp pins s' I⟩) hs) fun σ H Q s q => t_lcR j h s q
theorem s_lcR (i j : Nat) {y : Str} {py spos : Pos} {E : En} (hc : X.calm = true) (hn : X.N.Nodup) (hm : X.mg "range" = none) (hb : BlkOk X.N X.env.scope scope [(x, j)])
    (h : N X ω δ a fun ω1 c => ∃ n, c = .dat (.int n) ∧ -1000000 ≤ n ∧ n ≤ 1000000 ∧ ∃ J : Nat → Ow → List PyData → Prop, J 0 ω1 [] ∧
      (∀ i ω2 acc D, i < n.toNat → J i ω2 acc → BlkF X scope fun Y => N Y ((D, lstP acc) :: ω2) ((δ.set j none).set j (some (.dat (.int (i : Int))))) elt fun ω3 c => ∃ d, c = .dat d ∧ acc.length < 100000 ∧ ∃ ω4, ω3 = (D, lstP acc) :: ω4 ∧ J (i + 1) ω4 (acc ++ [d])) ∧
      ∀ ω2 acc, J n.toNat ω2 acc → E.nx ω2 (δ.set i (some (.dat (.list acc)))))
    (hgt : BlkF X scope fun Y => PG Y (.Name x p1) (gName j)) (hg : Gl X "range" := by rfl) (ha : starEach [a] X.env = [(false, eval a X.env)] := by rfl)
    (hs : ∀ y, foldedSetIterable (.Call (.Name "range" p2) [a] [] p3) X.env y = pure y := by intro _; rfl)
    (hyN : X.N[i]? = some y := by rfl) (hyl : X.env.scope.names.lookup y = some .local := by rfl) (hkd : X.env.scope.kind = .function := by rfl) (hpl : (py.line == pos.line) = true := by rfl) (hfr : (scope.names.any fun (n, k) => n == y && (k == .local || k == .cell)) = false := by decide +kernel) : S X ω δ (.Assign [.Name y py] (.ListComp elt [{ target := .Name x p1, iter := .Call (.Name "range" p2) [a] [] p3, ifs := [], is_async := 0 }] scope pos) spos) E := fun σ H D s f =>
  WS.of (ps_setLc (i := i) (own := [(x, j)]) (g := gName j) (te := fun σ H Q => BlkF X scope fun Y => WE Y elt σ H Q) hc hn hyN hyl (sw_true hkd hyl hpl hfr) (pi_range1 hg hm (pa_cons (WE.pe X a) pa_nil ha) ha) hb hgt (fun _ _ _ _ _ => pts_nil) (fun s H C cl fp => ⟨fun pins s' σ' H' Q I q => q s H C cl fp pins s' I⟩) hs) (t_lcR (Φ := fun ω1 c => E.nx ω1 (δ.set i (some c))) j h s fun ω1 c v H1 q s1 k1 o1 => f.nx ω1 _ _ H1 q (s1.store i o1) k1)
/-- [elt for x in a list] -/
theorem t_lcL (j : Nat)
    (h : N X ω δ iter fun ω1 c => ∃ ds, c = .dat (.list ds) ∧ ∃ J : Nat → Ow → List PyData → Prop, J 0 ω1 [] ∧
      (∀ i ω2 acc D d0, ds[i]? = some d0 → J i ω2 acc → BlkF X scope fun Y => N Y ((D, lstP acc) :: ω2) ((δ.set j none).set j (some (.dat d0))) elt fun ω3 c => ∃ d, c = .dat d ∧ acc.length < 100000 ∧ ∃ ω4, ω3 = (D, lstP acc) :: ω4 ∧ J (i + 1) ω4 (acc ++ [d])) ∧
      ∀ ω2 acc, J ds.length ω2 acc → Φ ω2 (.dat (.list acc))) {σ : St} {H : Hp} {Q : VK} (s : StOk X.K ω δ σ H) (q : ∀ ω' c v H', Φ ω' c → StOk X.K ω' δ σ H' → Kp (dom ω) H (dom ω') H' → CellOk X.K (dom ω') H' v c → Q v H') :
    tLc (iList X.K (WE X iter)) (gName j) tYes (fun σ H Q => BlkF X scope fun Y => WE Y elt σ H Q) [j] σ H Q :=
  h σ H _ s fun ω1 c v H1 ⟨ds, e1, J, j0, jt, je⟩ s1 k1 o1 => by
    subst e1
    cases o1 with
    | @lst l xs _ hl hr =>
      refine ⟨l, rfl, ⟨xs, SqL.of (hid_some hl).2⟩, fun D hD => ?_⟩
      have hD0 : (lstP []).ok X.K (hid (dom ω1) H1) (.lst []) := ⟨[], rfl, .nil⟩
      refine lc_list (K := X.K) (a := l) (xs := xs) (g := gName j) (tt := tYes) (te := fun σ H Q => BlkF X scope fun Y => WE Y elt σ H Q) (vs := [j]) (σ := σ) (H1 := H1) (D := D) (Qd := fun H => Q (.ref D) H) (fun i H' => ∃ ω2 acc, J i ω2 acc ∧ StOk X.K ((D, lstP acc) :: ω2) δ σ H' ∧ Kp (dom ω1) H1 (D :: dom ω2) H') ⟨ω1, [], j0, s1.cons hD hD0, (s1.own.cons hD hD0).2⟩ ?_ ?_ ?_
      · rintro i H' _ ⟨ω2, acc, _, _, k2⟩
        exact SqL.of (hid_some (k2 _ _ hl)).2
      · rintro i y H' hy ⟨ω2, acc, hJ, s2, k2⟩
        refine ⟨set_wipe, fun s3 H3 C cl fp => ?_⟩
        obtain ⟨d0, hd0, rd0⟩ := hr.get' hy
        have sB : StOk X.K ((D, lstP acc) :: ω2) ((δ.set j none).set j (some (.dat d0))) ((wipe σ [j]).set j (some y)) H' := ⟨(s2.env.wipe j).set (c := .dat d0) (rd0.mono k2) j, s2.own⟩
        refine jt i ω2 acc D d0 hd0 hJ s3 H3 C cl fp _ _ _ sB fun ω3 c v H4 ⟨d, e1, hz, ω4, e2, hJ'⟩ s4 k4 o4 => ?_
        subst e1; subst e2
        obtain ⟨u, m1, vs, rfl, m2⟩ := s4.own.at_ D _ List.mem_cons_self
        have ho : (lstP (acc ++ [d])).ok X.K (hid (dom ((D, lstP acc) :: ω4)) H4) (.lst (vs ++ [v])) := ⟨_, rfl, m2.append (.cons o4 .nil)⟩
        refine ⟨vs, m1, by rw [m2.len]; exact Nat.lt_of_lt_of_le hz (by decide), ω4, _, hJ', ?_, (k2.trans k4).trans (kp_upd List.mem_cons_self)⟩
        have oo := s4.own.put (i := 0) (p := D) (P := lstP acc) rfl ho
        exact ⟨s2.env.mono (k4.trans (kp_upd List.mem_cons_self)), oo⟩
      · rintro H' ⟨ω2, acc, hJ, s2, k2⟩
        rw [hr.len] at hJ
        exact q ω2 _ _ H' (je ω2 acc hJ) s2.drop (k1.trans (k2.trans (kp_drop (P := lstP acc)))) (own_lst s2.own)
theorem n_lcL (j : Nat) (hc : X.calm = true) (hn : X.N.Nodup) (hb : BlkOk X.N X.env.scope scope [(x, j)])
    (h : N X ω δ iter fun ω1 c => ∃ ds, c = .dat (.list ds) ∧ ∃ J : Nat → Ow → List PyData → Prop, J 0 ω1 [] ∧
      (∀ i ω2 acc D d0, ds[i]? = some d0 → J i ω2 acc → BlkF X scope fun Y => N Y ((D, lstP acc) :: ω2) ((δ.set j none).set j (some (.dat d0))) elt fun ω3 c => ∃ d, c = .dat d ∧ acc.length < 100000 ∧ ∃ ω4, ω3 = (D, lstP acc) :: ω4 ∧ J (i + 1) ω4 (acc ++ [d])) ∧
      ∀ ω2 acc, J ds.length ω2 acc → Φ ω2 (.dat (.list acc)))
    (hgt : BlkF X scope fun Y => PG Y (.Name x p1) (gName j)) (hs : ∀ y, foldedSetIterable iter X.env y = pure y := by intro _; rfl) : N X ω δ (.ListComp elt [{ target := .Name x p1, iter := iter, ifs := [], is_async := 0 }] scope pos) Φ :=
  n_lift (pe_lc (own := [(x, j)]) (g := gName j) (te := fun σ H Q => BlkF X scope fun Y => WE Y elt σ H Q) hc hn (pi_list (WE.pe X iter)) hb hgt (fun _ _ _ _ _ => pts_nil) (fun s H C cl fp => ⟨fun pins s' σ' H' Q I q => q s H C cl fp pins s' I⟩) hs) fun σ H Q s q => t_lcL j h s q
theorem s_lcL (i j : Nat) {y : Str} {py spos : Pos} {E : En} (hc : X.calm = true) (hn : X.N.Nodup) (hb : BlkOk X.N X.env.scope scope [(x, j)])
    (h : N X ω δ iter fun ω1 c => ∃ ds, c = .dat (.list ds) ∧ ∃ J : Nat → Ow → List PyData → Prop, J 0 ω1 [] ∧
      (∀ i ω2 acc D d0, ds[i]? = some d0 → J i ω2 acc → BlkF X scope fun Y => N Y ((D, lstP acc) :: ω2) ((δ.set j none).set j (some (.dat d0))) elt fun ω3 c => ∃ d, c = .dat d ∧ acc.length < 100000 ∧ ∃ ω4, ω3 = (D, lstP acc) :: ω4 ∧ J (i + 1) ω4 (acc ++ [d])) ∧
      ∀ ω2 acc, J ds.length ω2 acc → E.nx ω2 (δ.set i (some (.dat (.list acc)))))
    (hgt : BlkF X scope fun Y => PG Y (.Name x p1) (gName j)) (hs : ∀ y, foldedSetIterable iter X.env y = pure y := by intro _; rfl)
    (hyN : X.N[i]? = some y := by rfl) (hyl : X.env.scope.names.lookup y = some .local := by rfl) (hkd : X.env.scope.kind = .function := by rfl) (hpl : (py.line == pos.line) = true := by rfl) (hfr : (scope.names.any fun (n, k) => n == y && (k == .local || k == .cell)) = false := by decide +kernel) : S X ω δ (.Assign [.Name y py] (.ListComp elt [{ target := .Name x p1, iter := iter, ifs := [], is_async := 0 }] scope pos) spos) E := fun σ H D s f =>
  WS.of (ps_setLc (i := i) (own := [(x, j)]) (g := gName j) (te := fun σ H Q => BlkF X scope fun Y => WE Y elt σ H Q) hc hn hyN hyl (sw_true hkd hyl hpl hfr) (pi_list (WE.pe X iter)) hb hgt (fun _ _ _ _ _ => pts_nil) (fun s H C cl fp => ⟨fun pins s' σ' H' Q I q => q s H C cl fp pins s' I⟩) hs) (t_lcL (Φ := fun ω1 c => E.nx ω1 (δ.set i (some c))) j h s fun ω1 c v H1 q s1 k1 o1 => f.nx ω1 _ _ H1 q (s1.store i o1) k1)
/-- [elt for x in a list if test] -/
theorem t_lcLi (j : Nat) {test : Expr}
    (h : N X ω δ iter fun ω1 c => ∃ ds, c = .dat (.list ds) ∧ ∃ J : Nat → Ow → List PyData → Prop, J 0 ω1 [] ∧
      (∀ i ω2 acc D d0, ds[i]? = some d0 → J i ω2 acc → BlkF X scope fun Y => NT Y ((D, lstP acc) :: ω2) ((δ.set j none).set j (some (.dat d0))) test fun ω3 k =>
        if k = true then BlkF X scope fun Y => N Y ω3 ((δ.set j none).set j (some (.dat d0))) elt fun ω3 c => ∃ d, c = .dat d ∧ acc.length < 100000 ∧ ∃ ω4, ω3 = (D, lstP acc) :: ω4 ∧ J (i + 1) ω4 (acc ++ [d]) else ∃ ω4, ω3 = (D, lstP acc) :: ω4 ∧ J (i + 1) ω4 acc) ∧
      ∀ ω2 acc, J ds.length ω2 acc → Φ ω2 (.dat (.list acc))) {σ : St} {H : Hp} {Q : VK} (s : StOk X.K ω δ σ H) (q : ∀ ω' c v H', Φ ω' c → StOk X.K ω' δ σ H' → Kp (dom ω) H (dom ω') H' → CellOk X.K (dom ω') H' v c → Q v H') :
    tLc (iList X.K (WE X iter)) (gName j) (fun σ H Q => BlkF X scope fun Y => WT Y test σ H Q) (fun σ H Q => BlkF X scope fun Y => WE Y elt σ H Q) [j] σ H Q :=
  h σ H _ s fun ω1 c v H1 ⟨ds, e1, J, j0, jt, je⟩ s1 k1 o1 => by
    subst e1
    cases o1 with
    | @lst l xs _ hl hr =>
      refine ⟨l, rfl, ⟨xs, SqL.of (hid_some hl).2⟩, fun D hD => ?_⟩
      have hD0 : (lstP []).ok X.K (hid (dom ω1) H1) (.lst []) := ⟨[], rfl, .nil⟩
      refine lc_list (K := X.K) (a := l) (xs := xs) (g := gName j) (tt := fun σ H Q => BlkF X scope fun Y => WT Y test σ H Q) (te := fun σ H Q => BlkF X scope fun Y => WE Y elt σ H Q) (vs := [j]) (σ := σ) (H1 := H1) (D := D) (Qd := fun H => Q (.ref D) H) (fun i H' => ∃ ω2 acc, J i ω2 acc ∧ StOk X.K ((D, lstP acc) :: ω2) δ σ H' ∧ Kp (dom ω1) H1 (D :: dom ω2) H') ⟨ω1, [], j0, s1.cons hD hD0, (s1.own.cons hD hD0).2⟩ ?_ ?_ ?_
      · rintro i H' _ ⟨ω2, acc, _, _, k2⟩
        exact SqL.of (hid_some (k2 _ _ hl)).2
      · rintro i y H' hy ⟨ω2, acc, hJ, s2, k2⟩
        refine ⟨set_wipe, fun s3 H3 C cl fp => ?_⟩
        obtain ⟨d0, hd0, rd0⟩ := hr.get' hy
        have sB : StOk X.K ((D, lstP acc) :: ω2) ((δ.set j none).set j (some (.dat d0))) ((wipe σ [j]).set j (some y)) H' := ⟨(s2.env.wipe j).set (c := .dat d0) (rd0.mono k2) j, s2.own⟩
        refine jt i ω2 acc D d0 hd0 hJ s3 H3 C cl fp _ _ _ sB fun ω5 k H5 f5 s5 k5 => ?_
        cases k with
        | true =>
          refine fun s6 H6 C6 cl6 fp6 => f5 s6 H6 C6 cl6 fp6 _ _ _ s5 fun ω3 c v H4 ⟨d, e1, hz, ω4, e2, hJ'⟩ s4 k4 o4 => ?_
          subst e1; subst e2
          obtain ⟨u, m1, vs, rfl, m2⟩ := s4.own.at_ D _ List.mem_cons_self
          have ho : (lstP (acc ++ [d])).ok X.K (hid (dom ((D, lstP acc) :: ω4)) H4) (.lst (vs ++ [v])) := ⟨_, rfl, m2.append (.cons o4 .nil)⟩
          refine ⟨vs, m1, by rw [m2.len]; exact Nat.lt_of_lt_of_le hz (by decide), ω4, _, hJ', ?_, (k2.trans (k5.trans k4)).trans (kp_upd List.mem_cons_self)⟩
          have oo := s4.own.put (i := 0) (p := D) (P := lstP acc) rfl ho
          exact ⟨s2.env.mono ((k5.trans k4).trans (kp_upd List.mem_cons_self)), oo⟩
        | false =>
          obtain ⟨ω4, e2, hJ'⟩ := f5
          subst e2
          exact ⟨ω4, acc, hJ', ⟨s2.env.mono k5, s5.own⟩, k2.trans k5⟩
      · rintro H' ⟨ω2, acc, hJ, s2, k2⟩
        rw [hr.len] at hJ
        exact q ω2 _ _ H' (je ω2 acc hJ) s2.drop (k1.trans (k2.trans (kp_drop (P := lstP acc)))) (own_lst s2.own)
theorem n_lcLi (j : Nat) {test : Expr} (hc : X.calm = true) (hn : X.N.Nodup) (hb : BlkOk X.N X.env.scope scope [(x, j)])
    (h : N X ω δ iter fun ω1 c => ∃ ds, c = .dat (.list ds) ∧ ∃ J : Nat → Ow → List PyData → Prop, J 0 ω1 [] ∧
      (∀ i ω2 acc D d0, ds[i]? = some d0 → J i ω2 acc → BlkF X scope fun Y => NT Y ((D, lstP acc) :: ω2) ((δ.set j none).set j (some (.dat d0))) test fun ω3 k =>
        if k = true then BlkF X scope fun Y => N Y ω3 ((δ.set j none).set j (some (.dat d0))) elt fun ω3 c => ∃ d, c = .dat d ∧ acc.length < 100000 ∧ ∃ ω4, ω3 = (D, lstP acc) :: ω4 ∧ J (i + 1) ω4 (acc ++ [d]) else ∃ ω4, ω3 = (D, lstP acc) :: ω4 ∧ J (i + 1) ω4 acc) ∧
      ∀ ω2 acc, J ds.length ω2 acc → Φ ω2 (.dat (.list acc)))
    (hgt : BlkF X scope fun Y => PG Y (.Name x p1) (gName j)) (hs : ∀ y, foldedSetIterable iter X.env y = pure y := by intro _; rfl) : N X ω δ (.ListComp elt [{ target := .Name x p1, iter := iter, ifs := [test], is_async := 0 }] scope pos) Φ :=
  n_lift (pe_lc (own := [(x, j)]) (g := gName j) (tt := fun σ H Q => BlkF X scope fun Y => WT Y test σ H Q) (te := fun σ H Q => BlkF X scope fun Y => WE Y elt σ H Q) hc hn (pi_list (WE.pe X iter)) hb hgt (fun s H C cl fp => pts_one ⟨fun pins s' σ' H' Q I q => q s H C cl fp pins s' I⟩) (fun s H C cl fp => ⟨fun pins s' σ' H' Q I q => q s H C cl fp pins s' I⟩) hs) fun σ H Q s q => t_lcLi j h s q
theorem s_lcLi (i j : Nat) {y : Str} {py spos : Pos} {E : En} {test : Expr} (hc : X.calm = true) (hn : X.N.Nodup) (hb : BlkOk X.N X.env.scope scope [(x, j)])
    (h : N X ω δ iter fun ω1 c => ∃ ds, c = .dat (.list ds) ∧ ∃ J : Nat → Ow → List PyData → Prop, J 0 ω1 [] ∧
      (∀ i ω2 acc D d0, ds[i]? = some d0 → J i ω2 acc → BlkF X scope fun Y => NT Y ((D, lstP acc) :: ω2) ((δ.set j none).set j (some (.dat d0))) test fun ω3 k =>
        if k = true then BlkF X scope fun Y => N Y ω3 ((δ.set j none).set j (some (.dat d0))) elt fun ω3 c => ∃ d, c = .dat d ∧ acc.length < 100000 ∧ ∃ ω4, ω3 = (D, lstP acc) :: ω4 ∧ J (i + 1) ω4 (acc ++ [d]) else ∃ ω4, ω3 = (D, lstP acc) :: ω4 ∧ J (i + 1) ω4 acc) ∧
      ∀ ω2 acc, J ds.length ω2 acc → E.nx ω2 (δ.set i (some (.dat (.list acc)))))
    (hgt : BlkF X scope fun Y => PG Y (.Name x p1) (gName j)) (hs : ∀ y, foldedSetIterable iter X.env y = pure y := by intro _; rfl)
    (hyN : X.N[i]? = some y := by rfl) (hyl : X.env.scope.names.lookup y = some .local := by rfl) (hkd : X.env.scope.kind = .function := by rfl) (hpl : (py.line == pos.line) = true := by rfl) (hfr : (scope.names.any fun (n, k) => n == y && (k == .local || k == .cell)) = false := by decide +kernel) : S X ω δ (.Assign [.Name y py] (.ListComp elt [{ target := .Name x p1, iter := iter, ifs := [test], is_async := 0 }] scope pos) spos) E := fun σ H D s f =>
  WS.of (ps_setLc (i := i) (own := [(x, j)]) (g := gName j) (tt := fun σ H Q => BlkF X scope fun Y => WT Y test σ H Q) (te := fun σ H Q => BlkF X scope fun Y => WE Y elt σ H Q) hc hn hyN hyl (sw_true hkd hyl hpl hfr) (pi_list (WE.pe X iter)) hb hgt (fun s H C cl fp => pts_one ⟨fun pins s' σ' H' Q I q => q s H C cl fp pins s' I⟩) (fun s H C cl fp => ⟨fun pins s' σ' H' Q I q => q s H C cl fp pins s' I⟩) hs) (t_lcLi (Φ := fun ω1 c => E.nx ω1 (δ.set i (some c))) j h s fun ω1 c v H1 q s1 k1 o1 => f.nx ω1 _ _ H1 q (s1.store i o1) k1)
end
end DL

namespace DL
open PySem PySem.Spec L2
open PyProof.Rows (importsNone AllBare)
/-! ## the end of a law -/
/-- what a law's def promises: for a script of at most 63 ints (each of at most 2 ^ 20 bits) the answer is True -/
def lawC : Con := fun cs ω Φ => ∃ ns : List Int, cs = [.scr ns] ∧ ns.length ≤ 63 ∧ ω = [] ∧ Φ [] (.dat (.bool true))
theorem lawC_len {cs : List Cell} {ω : Ow} {Φ : Ow → Cell → Prop} (h : lawC cs ω Φ) : cs.length = 1 := by
  obtain ⟨ns, rfl, _⟩ := h
  rfl
theorem law_end {l : PySem.W.OpenLaw} {k : Nat} {q : Program} {loose : List Str} {XP : (Str → Option Value) → Heap → Prop} {YP : World → Heap → Prop} {d : DefRec} {K : Params → PySem.W.Frag} {x : Str}
    (hn : l.most = some 63) (hdf : d.params.defaults = []) (hr : Room k callerA) (hY : ∀ (w : World) (h : Heap), YP w h → (K w.params).In h) (hi : importsNone q = true)
    (F : ∀ (w : World) (mg : Str → Option Value) (fa : Addr) (h : Heap), (K w.params).In h → h.Ns mainGlobals mg → mg d.name = some (.ref fa) →
      ∃ fd : FuncData, (∀ (s : Shared) (u : Value), BindsTo s fd ⟨[u], []⟩ [(x, u)]) ∧
        ∀ base : Heap, (K w.params).In base → base.Ns mainGlobals mg → (∃ m, base.Ns sysModules m) → FnG l.prog w (K w.params) mg base k fa fd [x] (spD (K w.params) lawC)) :
    PySem.W.WalkO q loose XP YP l.row.toRowW d [] (fun f vs => PySem.call f vs) := by
  refine Att.attach_callB hn hdf fun w s₀ s₁ mg mb fa o pm cd doc a vs ns G Y ho hd hcd hmg hobj hints hlen hbits hgens => ?_
  obtain ⟨fd, bind, prom⟩ := F w mg fa _ (hY w _ Y) G.T.g hmg
  have sees := G.T.seer hi
  have rv := vals_ints hints
  have szl : ns.length ≤ sizeLine := Nat.le_trans hlen (by decide)
  obtain ⟨mm, hmods, _⟩ := sees.mods
  have kin := hY w _ Y
  -- whatever is tracked at the call is the script's own list, held as it stands
  have go : ∀ H : Hp, (∀ b, H b = none ∨ (b = a ∧ H b = some (.frz { cls := .type "list", data := .seq vs.toArray } (.lst (ns.map V.int))))) → (H a ≠ none → (K w.params).lookup a = none) → SqL (K w.params) H a (ns.map V.int) →
      codeAny (model l.prog w) callerA (.call (.ref fa) ⟨[.ref a], []⟩) (fun r s' => r = .ok (.ret (.bool true)) ∧ OldK s₁.heap s'.heap ∧ s'.os = s₁.os ∧ AllBare s'.gens) s₁ := by
    intro H only notK hS
    have hold : HOk l.prog w H s₁.heap := by
      intro b u z
      rcases only b with e | ⟨rfl, e⟩
      · rw [e] at z; cases z
      · rw [e] at z
        cases z
        exact ⟨hobj, by rw [List.length_map]; exact szl, vs, _, rv, hobj⟩
    have below : ∀ {b : Addr} {u : Obj}, s₁.heap.get? b = some u → b ≠ a → (hidT s₁.heap H).get? b = some u := fun {b u} z nb => hidT_get z ((only b).resolve_right fun e => nb e.1)
    have nsB : ∀ {b : Addr} {m : Str → Option Value}, s₁.heap.Ns b m → (hidT s₁.heap H).Ns b m := by
      rintro b m ⟨u, es, ep, z, hdict, tail⟩
      refine ⟨u, es, ep, below z ?_, hdict, tail⟩
      rintro rfl
      rw [hobj] at z
      cases z
      cases hdict
    have kinB : (K w.params).In (hidT s₁.heap H) := by
      intro b u z
      refine hidT_get (kin b u z) ?_
      rcases only b with e | ⟨rfl, e⟩
      · exact e
      · rw [notK (by rw [e]; simp)] at z
        cases z
    obtain ⟨mc, lim1, lim2⟩ := G.T.nolimit
    have md : Mod (K w.params) mg (hidT s₁.heap H) := ⟨kinB, nsB G.T.g, ⟨mb, nsB G.T.b, G.T.builtins⟩, ⟨mc, nsB lim1, lim2⟩⟩
    have en : Env0 l.prog w (K w.params) mg (hidT s₁.heap H) callerA [] s₁ H := ⟨rfl, md, fun b u z => of_hidT z, Nat.le_of_eq (hidT_size _ _), trivial, fun b z => (List.not_mem_nil z).elim, hold, .of_eq hgens⟩
    have PR := prom (hidT s₁.heap H) kinB (nsB G.T.g) ⟨mm, nsB hmods⟩
    have want : spD (K w.params) lawC [.ref a] H (fun v _ => v = .bl true) (fun _ _ _ => False) := by
      refine ⟨[], [.scr ns], fun ω' c => ω' = [] ∧ c = .dat (.bool true), .cons ⟨a, rfl, ?_⟩ .nil, ⟨List.nodup_nil, fun p P z => (List.not_mem_nil z).elim⟩, ⟨ns, rfl, hlen, rfl, rfl, rfl⟩, ?_⟩
      · have e : hid (dom ([] : Ow)) H = H := by
          funext b
          exact hid_out (fun z => (List.not_mem_nil z).elim)
        rw [e]
        exact hS
      · rintro ω' c v H' ⟨rfl, rfl⟩ _ _ o
        exact bool_of o
    refine codeAny_mono (PR.run callerA [] s₁ H ⟨[.ref a], []⟩ [.ref a] [.ref a] _ _ rfl hr en (bind s₁ (.ref a)) (.cons rfl .nil) want) fun r s' h => ?_
    cases r with
    | error e => exact h.elim
    | ok fl =>
      cases fl with
      | next => exact h.elim
      | brk => exact h.elim
      | cont => exact h.elim
      | ret u =>
        obtain ⟨v, H', hos, hbare, un, held, rl, q⟩ := h
        subst q
        cases (show u = Value.bool true from rl)
        refine ⟨rfl, OldK.of_keep fun b u z => ?_, hos, hbare⟩
        rcases only b with e | ⟨rfl, e⟩
        · exact un.keep b u z e (fun y => (List.not_mem_nil y).elim) (fun y => (List.not_mem_nil y).elim)
        · have z2 := (held b _ (un.frzs b _ _ e)).1
          rw [hobj] at z
          cases z
          exact z2
  cases hk : (K w.params).lookup a with
  | some u =>
    have z := kin a u hk
    rw [hobj] at z
    cases z
    exact go (fun _ => none) (fun b => .inl rfl) (fun z => absurd rfl z) (.inr ⟨_, vs.toArray, _, hk, rfl, rfl, rfl, by rw [List.size_toArray, hints.length]; exact szl, by simpa using rv⟩)
  | none =>
    refine go (fun b => if b = a then some (.frz { cls := .type "list", data := .seq vs.toArray } (.lst (ns.map V.int))) else none) (fun b => ?_) (fun _ => hk) (.inl (.inr ⟨_, if_pos rfl⟩))
    by_cases hb : b = a
    · exact .inr ⟨hb, if_pos hb⟩
    · exact .inl (if_neg hb)
end DL

namespace DL
open PySem PySem.Spec L2
/-! ## defs as they stand, and what they are ready to promise -/
structure Has (K : PySem.W.Frag) (mg : Str → Option Value) (name : Str) (st : Stmt) (ps : List Str) : Prop where
  ex : ∃ f fd, Fun K name name st f fd ∧ mg name = some (.ref f) ∧ Binds K fd ps []
structure Rdy (P : Program) (w : World) (K : PySem.W.Frag) (mg : Str → Option Value) (base : Heap) (k : Nat) (name : Str) (ps : List Str) (C : Con) : Prop where
  ex : ∃ f fd, FnOk P w K mg base CX0 k f fd ps (spD K C) ∧ mg name = some (.ref f) ∧ PySem.W.keepIn K (.ref f) = true ∧ Binds K fd ps []
structure RdG (P : Program) (w : World) (K : PySem.W.Frag) (mg : Str → Option Value) (base : Heap) (k : Nat) (name : Str) (ps : List Str) (C : Con) : Prop where
  ex : ∃ f fd, FnG P w K mg base k f fd ps (spD K C) ∧ mg name = some (.ref f) ∧ PySem.W.keepIn K (.ref f) = true ∧ Binds K fd ps []
section
variable {P : Program} {w : World} {K : PySem.W.Frag} {mg : Str → Option Value} {base : Heap} {name : Str} {st : Stmt} {Nm ps : List Str} {k : Nat} {C : Con}
theorem has_mk {h : Heap} {f : Addr} {od an : Option Addr} {sl : Array (Option Value)} {oc kV doc pm cd ct : Value} (X : K.In h) (G : h.Ns mainGlobals mg) (a : PySem.W.nsIn K mainGlobals name = some (some (.ref f)))
    (l : K.lookup f = some ⟨oc, od, .func (PySem.W.fnOf name name (defArgs st) (defBody st) (defScope st) .none kV doc pm an cd ct), sl⟩) (c : PySem.W.codeIn K cd name = true) (kp : PySem.W.keepIn K (.ref f) = true)
    (b : ∀ (kV doc pm : Value) (an : Option Addr) (cdv ct : Value) (us : List Value), us.length = ps.length → bindArgs (PySem.W.fnOf name name (defArgs st) (defBody st) (defScope st) .none kV doc pm an cdv ct) ⟨us, []⟩ = pure (ps.zip us)) : Has K mg name st ps :=
  ⟨f, _, fun_mk (st := st) l c kp, PySem.W.mg_of X G a, (fun_mk (st := st) l c kp).binds b⟩
theorem rdy (F : Has K mg name st ps) (sc : FnScope Nm ps (defScope st)) (len : ∀ cs ω Φ, C cs ω Φ → cs.length = ps.length)
    (body : ∀ (X : Cx) (f : Addr) (cdv : Value) (A : Around) (outer : List PySem.Env) (s : Shared) (H : Hp) (E : XK), X = (cxOf CX0 P w K mg base Nm name (defScope st) f cdv A outer s H E).nox → Room k X.A → ∀ cs ω Φ, C cs ω Φ → B X ω (startE Nm cs) (defBody st) { nx := fun ω' _ => Φ ω' (.dat .none), rt := Φ }) :
    Rdy P w K mg base (k + 1) name ps C := by
  obtain ⟨f, fd, F, hm, hb⟩ := F.ex
  exact ⟨f, fd, okD F sc len fun X => body X f, hm, F.kp, hb⟩
theorem rdg (F : Has K mg name st ps) (sc : FnScope Nm ps (defScope st)) (len : ∀ cs ω Φ, C cs ω Φ → cs.length = ps.length)
    (body : ∀ (X : Cx) (f : Addr) (cdv : Value) (A : Around) (outer : List PySem.Env) (s : Shared) (H : Hp) (E : XK), X = (cxOf CX0 P w K mg base Nm name (defScope st) f cdv A outer s H E).nox → X.A.guards = some [] → Room k X.A → ∀ cs ω Φ, C cs ω Φ → B X ω (startE Nm cs) (defBody st) { nx := fun ω' _ => Φ ω' (.dat .none), rt := Φ }) :
    RdG P w K mg base (k + 1) name ps C := by
  obtain ⟨f, fd, F, hm, hb⟩ := F.ex
  exact ⟨f, fd, okG F sc len fun X => body X f, hm, F.kp, hb⟩
end
section
variable {X : Cx} {ω : Ow} {δ : Env} {e a b c : Expr} {rest es : List Expr} {Φ : Ow → Cell → Prop} {pos p1 : Pos} {x : Str} {k j : Nat} {ps : List Str} {C : Con}
theorem n_fn (R : Rdy X.prog X.w X.K X.mg X.base j x ps C) (hr : Room k X.A) (h : NA X ω δ (e :: es) fun ω1 cs => C cs ω1 Φ) (hjk : j ≤ k := by decide) (hg : Gl X x := by rfl)
    (hdb : (x == ("__debug__" : Str)) = false := by decide) (he : starEach (e :: es) X.env = (false, eval e X.env) :: starEach es X.env := by rfl) (hpl : (backTo pos (starEach es X.env)).any (·.1) = false := by rfl) : N X ω δ (.Call (.Name x p1) (e :: es) [] pos) Φ := by
  obtain ⟨f, fd, G, hm, hk, hb⟩ := R.ex
  exact n_call G (hr.mono hjk) hm hk hb h hg hdb he hpl
theorem n_fnG (R : RdG X.prog X.w X.K X.mg X.base j x ps C) (hgd : X.A.guards = some []) (hr : Room k X.A) (h : NA X ω δ (e :: es) fun ω1 cs => C cs ω1 Φ) (hjk : j ≤ k := by decide) (hg : Gl X x := by rfl)
    (hdb : (x == ("__debug__" : Str)) = false := by decide) (he : starEach (e :: es) X.env = (false, eval e X.env) :: starEach es X.env := by rfl) (hpl : (backTo pos (starEach es X.env)).any (·.1) = false := by rfl) : N X ω δ (.Call (.Name x p1) (e :: es) [] pos) Φ := by
  obtain ⟨f, fd, G, hm, hk, hb⟩ := R.ex
  exact n_callG G hgd (hr.mono hjk) hm hk hb h hg hdb he hpl
end
theorem room_u {k : Nat} {A : Around} (h : Room k A) : A.units + 100 < cLine := by have := h.un; omega
theorem room_u64 {k : Nat} {A : Around} (h : Room k A) : A.units + 64 < cLine := by have := h.un; omega
/-! ## weakening, cuts, seals -/
section
variable {X : Cx} {ω : Ow} {δ : Env} {st : Stmt} {sts rest : List Stmt} {E E' : En}
theorem Fits.imp {K : PySem.W.Frag} {H : Hp} {D : Ends} (f : Fits K ω H E' D) (h1 : ∀ ω' δ', E.nx ω' δ' → E'.nx ω' δ') (h2 : ∀ ω' c, E.rt ω' c → E'.rt ω' c) (h3 : ∀ ω' δ', E.bk ω' δ' → E'.bk ω' δ') (h4 : ∀ ω' δ', E.ct ω' δ' → E'.ct ω' δ') : Fits K ω H E D :=
  ⟨fun a b c d q => f.nx a b c d (h1 _ _ q), fun a b c d q => f.rt a b c d (h2 _ _ q), fun a b c d q => f.bk a b c d (h3 _ _ q), fun a b c d q => f.ct a b c d (h4 _ _ q)⟩
/-- a statement, and what holds behind it; the rest from there -/
theorem b_mid (M : Ow → Env → Prop) (h1 : S X ω δ st { E with nx := M }) (h2 : ∀ ω' δ', M ω' δ' → B X ω' δ' rest E) : B X ω δ (st :: rest) E :=
  b_cons fun σ H D s f => h1 σ H D s (f.imp (E := { E with nx := M }) (fun ω' δ' q => h2 ω' δ' q) (fun _ _ q => q) (fun _ _ q => q) fun _ _ q => q)
/-- a list whose items are not told but for what I says of them -/
def sealP (I : List PyData → Prop) : OwnP := ⟨fun K H o => ∃ its, I its ∧ (lstP its).ok K H o, fun K H H' o e ⟨its, h1, h2⟩ => ⟨its, h1, (lstP its).mono _ _ _ _ e h2⟩⟩
theorem OwnOk.swap {K : PySem.W.Frag} {H : Hp} {n : Nat} {p : Addr} {P P' : OwnP} (s : OwnOk K ω H) (h : ω[n]? = some (p, P)) (hp : ∀ o, H p = some o → P.ok K (hid (dom ω) H) o → P'.ok K (hid (dom ω) H) o) : OwnOk K (ω.set n (p, P')) H := by
  refine ⟨by rw [dom_set h]; exact s.nd, fun a R q => ?_⟩
  rw [dom_set h]
  obtain ⟨j, hj⟩ := List.getElem?_of_mem q
  rw [List.getElem?_set] at hj
  split at hj
  · split at hj
    · cases hj
      obtain ⟨o, h1, h2⟩ := s.at_ p P (List.mem_of_getElem? h)
      exact ⟨o, h1, hp o h1 h2⟩
    · cases hj
  · exact s.at_ a R (List.mem_of_getElem? hj)
theorem set_back {n : Nat} {p : Addr} {P P' : OwnP} (h : ω[n]? = some (p, P)) : (ω.set n (p, P')).set n (p, P) = ω := by
  rw [List.set_set]
  apply List.ext_getElem?
  intro j
  rw [List.getElem?_set]
  split
  · rename_i e
    subst e
    rw [if_pos (List.getElem?_eq_some_iff.mp h).1, h]
  · rfl
/-- a sealed list opened for a block, and closed at its ends -/
def closeE (ω : Ow) (n : Nat) (p : Addr) (I : List PyData → Prop) (E : En) : En where
  nx := fun ω' δ' => ∃ its, I its ∧ ω' = ω.set n (p, lstP its) ∧ E.nx ω δ'
  rt := fun ω' c => ∃ its, I its ∧ ω' = ω.set n (p, lstP its) ∧ E.rt ω c
  bk := fun ω' δ' => ∃ its, I its ∧ ω' = ω.set n (p, lstP its) ∧ E.bk ω δ'
  ct := fun ω' δ' => ∃ its, I its ∧ ω' = ω.set n (p, lstP its) ∧ E.ct ω δ'
theorem get_set {n : Nat} {p : Addr} {P P' : OwnP} (h : ω[n]? = some (p, P)) : (ω.set n (p, P'))[n]? = some (p, P') := by
  rw [List.getElem?_set, if_pos rfl, if_pos (List.getElem?_eq_some_iff.mp h).1]
theorem opened_ {K : PySem.W.Frag} {H : Hp} {n : Nat} {p : Addr} {I : List PyData → Prop} (s : OwnOk K ω H) (h : ω[n]? = some (p, sealP I)) : ∃ its, I its ∧ OwnOk K (ω.set n (p, lstP its)) H := by
  obtain ⟨o, h1, its, h2, h3⟩ := s.at_ p _ (List.mem_of_getElem? h)
  refine ⟨its, h2, s.swap h fun o' e _ => ?_⟩
  rw [h1] at e
  cases e
  exact h3
theorem closed_ {K : PySem.W.Frag} {H : Hp} {n : Nat} {p : Addr} {I : List PyData → Prop} {its : List PyData} (h : ω[n]? = some (p, sealP I)) (hI : I its) (s : OwnOk K (ω.set n (p, lstP its)) H) : OwnOk K ω H := by
  have q := s.swap (P' := sealP I) (get_set h) fun o _ ho => ⟨its, hI, ho⟩
  rw [set_back h] at q
  exact q
theorem b_open {n : Nat} {p : Addr} {I : List PyData → Prop} (hn : ω[n]? = some (p, sealP I)) (h : ∀ its, I its → B X (ω.set n (p, lstP its)) δ sts (closeE ω n p I E)) : B X ω δ sts E := fun σ H D s f => by
  obtain ⟨its, hI, ow⟩ := opened_ s.own hn
  have de : ∀ jts, dom (ω.set n (p, lstP jts)) = dom ω := fun _ => dom_set hn
  refine h its hI σ H D ⟨by rw [de]; exact s.env, ow⟩ ⟨?_, ?_, ?_, ?_⟩
  · rintro ω' δ' σ' H' ⟨jts, hJ, rfl, q⟩ s' k
    rw [de, de] at k
    exact f.nx ω δ' σ' H' q ⟨by have := s'.env; rw [de] at this; exact this, closed_ hn hJ s'.own⟩ k
  · rintro ω' c v H' ⟨jts, hJ, rfl, q⟩ s' k o
    rw [de] at o
    rw [de, de] at k
    exact f.rt ω c v H' q (closed_ hn hJ s') k o
  · rintro ω' δ' σ' H' ⟨jts, hJ, rfl, q⟩ s' k
    rw [de, de] at k
    exact f.bk ω δ' σ' H' q ⟨by have := s'.env; rw [de] at this; exact this, closed_ hn hJ s'.own⟩ k
  · rintro ω' δ' σ' H' ⟨jts, hJ, rfl, q⟩ s' k
    rw [de, de] at k
    exact f.ct ω δ' σ' H' q ⟨by have := s'.env; rw [de] at this; exact this, closed_ hn hJ s'.own⟩ k
end
/-! ## texts repeated -/
def repS (z : Str) (k : Int) : Str := ⟨(List.replicate k.toNat z.cps).foldl (· ++ ·) #[]⟩
theorem op_repS {X : Cx} : OpR X (binaryOp .Mult) (fun x y H Q => ∃ z k, x = .str z ∧ y = .int k ∧ 2 ≤ k ∧ k ≤ 100000 ∧ 1 ≤ z.length ∧ z.length * k.toNat ≤ 1000000 ∧ (repS z k).length ≤ sizeLine ∧ Q (.str (repS z k)) H) := by
  intro pins s σ H x y v u Q I rx ry h
  obtain ⟨z, k, rfl, rfl, h1, h2, h3, h4, h5, q⟩ := h
  obtain ⟨t, rfl⟩ := rx
  obtain ⟨t', rfl⟩ := ry
  have e1 : (k == 1 || z.length == 0) = false := by
    rw [Bool.or_eq_false_iff]
    exact ⟨beq_eq_false_iff_ne.mpr (by omega), beq_eq_false_iff_ne.mpr (by omega)⟩
  refine PySem.P.mul_str ?_ ?_ ?_ ?_
  · rw [Bool.or_eq_false_iff]
    exact ⟨decide_eq_false (by omega), decide_eq_false (by omega)⟩
  · intro _ _
    have e2 : ((z.length * k.toNat : Nat) : Int) ≤ 1000000 := by omega
    rw [Int.natCast_mul, Int.toNat_of_nonneg (by omega)] at e2
    have h6 : (z.length : Int) ≤ (2 ^ 63 - 1) / k := Int.le_ediv_of_mul_le (by omega) (by omega)
    omega
  · intro _ _
    exact decide_eq_false (by
      have : (1000000 : Nat) ≤ sizeLine := by decide
      omega)
  · rw [if_neg (by omega), e1]
    exact ⟨h5, .str (repS z k), H, I.tok _, ⟨_, rfl⟩, q⟩
theorem n_repS {X : Cx} {ω : Ow} {δ : Env} {a b : Expr} {Φ : Ow → Cell → Prop} {pos : Pos} (h : N X ω δ a fun ω1 c1 => N X ω1 δ b fun ω2 c2 => ∃ z k, c1 = .dat (.str z) ∧ c2 = .dat (.int k) ∧ 2 ≤ k ∧ k ≤ 100000 ∧ 1 ≤ z.length ∧ z.length * k.toNat ≤ 1000000 ∧ (repS z k).length ≤ sizeLine ∧ Φ ω2 (.dat (.str (repS z k)))) : N X ω δ (.BinOp a .Mult b pos) Φ :=
  n_bop op_repS (h.imp fun _ _ h0 => h0.imp fun ω2 _ ⟨z, k, e1, e2, h1, h2, h3, h4, h5, f⟩ v w σ H Q s o1 o2 q => by
    subst e1; subst e2
    cases str_of o1; cases int_of o2
    exact ⟨z, k, rfl, rfl, h1, h2, h3, h4, h5, q ω2 _ _ H f s (Kp.refl _ _) (Rp.str _)⟩)
end DL

namespace DL
open PySem PySem.Spec L2
/-- a tuple of the module's own top whose items are flat -/
inductive KRel (K : PySem.W.Frag) : Value → PyData → Prop
  | non : KRel K .none .none
  | bl (b : Bool) : KRel K (.bool b) (.bool b)
  | int (i : Int) (t : Tok) : KRel K (.int i t) (.int i)
  | str (x : Str) (t : Tok) : KRel K (.str x t) (.str x)
inductive KRels (K : PySem.W.Frag) : List Value → List PyData → Prop
  | nil : KRels K [] []
  | cons {u : Value} {d : PyData} {us : List Value} {ds : List PyData} : KRel K u d → KRels K us ds → KRels K (u :: us) (d :: ds)
theorem KRels.rp {K : PySem.W.Frag} (H : Hp) : ∀ {us : List Value} {ds : List PyData}, KRels K us ds → ∃ vs, Vals vs us ∧ RpA K H vs ds
  | _, _, .nil => ⟨[], .nil, .nil⟩
  | _, _, .cons h r => by
    obtain ⟨vs, h1, h2⟩ := KRels.rp H r
    cases h with
    | non => exact ⟨.non :: vs, .cons rfl h1, .cons .non h2⟩
    | bl b => exact ⟨.bl b :: vs, .cons rfl h1, .cons (.bl b) h2⟩
    | int i t => exact ⟨.int i :: vs, .cons ⟨t, rfl⟩ h1, .cons (.int i) h2⟩
    | str x t => exact ⟨.str x :: vs, .cons ⟨t, rfl⟩ h1, .cons (.str x) h2⟩
theorem KRels.len {K : PySem.W.Frag} : ∀ {us : List Value} {ds : List PyData}, KRels K us ds → us.length = ds.length
  | _, _, .nil => rfl
  | _, _, .cons _ r => by simp [KRels.len r]
/-- what a name of the top holds: a datum that stands for ever -/
def CD (K : PySem.W.Frag) (mg : Str → Option Value) (x : Str) (d : PyData) : Prop := ∃ u v, mg x = some u ∧ RelV v u ∧ ∀ H, Rp K H v d
theorem cd_int {K : PySem.W.Frag} {mg : Str → Option Value} {h : Heap} {x : Str} {i : Int} {t : Tok} (X : K.In h) (G : h.Ns mainGlobals mg) (a : PySem.W.nsIn K mainGlobals x = some (some (.int i t))) : CD K mg x (.int i) :=
  ⟨_, .int i, PySem.W.mg_of X G a, ⟨t, rfl⟩, fun H => .int i⟩
theorem cd_tup {K : PySem.W.Frag} {mg : Str → Option Value} {h : Heap} {x : Str} {a : Addr} {dd : Option Addr} {us : List Value} {n : Nat} {sl : Array (Option Value)} {ds : List PyData} (X : K.In h) (G : h.Ns mainGlobals mg) (e : PySem.W.nsIn K mainGlobals x = some (some (.ref a)))
    (l : K.lookup a = some ⟨.type "tuple", dd, .seq us.toArray n, sl⟩) (r : KRels K us ds) (z : ds.length ≤ 1000 := by decide) : CD K mg x (.tuple ds) :=
  ⟨_, .ref a, PySem.W.mg_of X G e, rfl, fun H => by
    obtain ⟨vs, h1, h2⟩ := r.rp H
    exact .tup (.inr ⟨_, us.toArray, n, l, rfl, rfl, by rw [List.size_toArray, r.len]; exact sz1000 z, by simpa using h1⟩) h2⟩
theorem n_const {X : Cx} {ω : Ow} {δ : Env} {Φ : Ow → Cell → Prop} {pos : Pos} {x : Str} {d : PyData} (c : CD X.K X.mg x d) (h : Φ ω (.dat d)) (hg : Gl X x := by rfl) (hdb : (x == ("__debug__" : Str)) = false := by decide) : N X ω δ (.Name x pos) Φ := by
  obtain ⟨u, v, h1, h2, h3⟩ := c
  exact n_globD h1 h2 h3 h hg hdb
theorem law_binds {K : PySem.W.Frag} {st : Stmt} {f : Addr} {fd : FuncData} (F : Fun K "law" "law" st f fd) (h : ∀ (kV doc pm : Value) (an : Option Addr) (cdv ct u : Value), bindArgs (PySem.W.fnOf "law" "law" (defArgs st) (defBody st) (defScope st) .none kV doc pm an cdv ct) ⟨[u], []⟩ = pure [(("script" : Str), u)]) :
    ∀ (s : Shared) (u : Value), BindsTo s fd ⟨[u], []⟩ [(("script" : Str), u)] := by
  obtain ⟨oc, od, kV, doc, pm, an, cdv, ct, osl, rfl, lk, hcd⟩ := F.ex
  exact fun s u => .of_eq (h _ _ _ _ _ _ u)
end DL

namespace DL
open PySem PySem.Spec L2
/-! ## the bag of draws: contracts of a law's own helpers -/
def bagI (its : List PyData) : Prop := ∃ (a b c : Int) (ns : List Int), its = [.int a, .int b, .int c, .list (ns.map .int)] ∧ 0 ≤ a ∧ 0 ≤ b ∧ b < 2147483647 ∧ 0 ≤ c ∧ ns.length ≤ 63 ∧ ∀ x ∈ ns, 0 ≤ x
def bagP : OwnP := sealP bagI
def bagC : Con := fun cs ω Φ => ∃ ns : List Int, cs = [.scr ns] ∧ ∀ p, Φ ((p, bagP) :: ω) (.raw (.ref p))
def takeC : Con := fun cs ω Φ => ∃ (n : Nat) (p : Addr) (m : Int), cs = [.raw (.ref p), .dat (.int m)] ∧ ω[n]? = some (p, bagP) ∧ 1 ≤ m ∧ m < 1000000000 ∧ ∀ v : Int, 0 ≤ v → v < m → Φ ω (.dat (.int v))
def oneC : Con := fun cs ω Φ => ∃ (n : Nat) (p : Addr) (ds : List PyData), cs = [.raw (.ref p), .dat (.list ds)] ∧ ω[n]? = some (p, bagP) ∧ ds ≠ [] ∧ ds.length ≤ 1000 ∧ ∀ d ∈ ds, Φ ω (.dat d)
def alikeC : Con := fun cs ω Φ => ∃ d, cs = [.dat d, .dat d] ∧ SeqAt.shaped d = true ∧ Shows d ∧ Φ ω (.dat (.bool true))
theorem n_seal {X : Cx} {ω : Ow} {δ : Env} {e : Expr} {Φ : Ow → Cell → Prop} (I : List PyData → Prop) (h : N X ω δ e fun ω1 c => ∃ p its ω0, ω1 = (p, lstP its) :: ω0 ∧ I its ∧ Φ ((p, sealP I) :: ω0) c) : N X ω δ e Φ := fun σ H Q s q =>
  h σ H Q s fun ω1 c v H1 ⟨p, its, ω0, e1, hI, f⟩ s1 k1 o1 => by
    subst e1
    exact q _ c v H1 f ⟨s1.env, s1.own.swap (n := 0) (p := p) (P := lstP its) (P' := sealP I) rfl fun o _ ho => ⟨its, hI, ho⟩⟩ k1 o1
theorem canLay_ints (ns : List Int) : PyData.canLayAll0 (ns.map .int) = true := by
  induction ns with
  | nil => rfl
  | cons n r ih => simp [PyData.canLayAll0, PyData.canLay0, ih]
theorem abs_nn (i : Int) : 0 ≤ (if i < 0 then -i else i) := by split <;> omega
theorem atI_int {ns : List Int} {k : Int} {d : PyData} (h : atI (ns.map PyData.int) k = some d) : ∃ x ∈ ns, d = .int x := by
  obtain ⟨j, _, h2⟩ := atI_ix h
  rw [List.getElem?_map] at h2
  cases q : ns[j]? with
  | none => rw [q] at h2; cases h2
  | some x => rw [q] at h2; exact ⟨x, List.mem_of_getElem? q, (Option.some.inj h2).symm⟩
theorem atI_in {α : Type} {ds : List α} {k : Int} (h0 : 0 ≤ k) (h1 : k < (ds.length : Int)) : ∃ d, atI ds k = some d ∧ ds[k.toNat]? = some d := by
  have h2 : k.toNat < ds.length := by omega
  refine ⟨ds[k.toNat], ?_, List.getElem?_eq_getElem h2⟩
  unfold atI ixN
  rw [if_pos h0, if_pos (by omega)]
  exact List.getElem?_eq_getElem h2
theorem eqv_ints (a b : Int) : PyData.eqv (.int a) (.int b) = (a == b) := by simp [PyData.eqv]
theorem fmod_nn {a b : Int} (h : 0 < b) : 0 ≤ a.fmod b ∧ a.fmod b < b := by
  rw [Int.fmod_eq_emod_of_nonneg _ (by omega)]
  exact ⟨Int.emod_nonneg _ (by omega), Int.emod_lt_of_pos _ h⟩
theorem fdiv_nn {a b : Int} (h : 0 < b) (h0 : 0 ≤ a) : 0 ≤ a.fdiv b := by
  rw [Int.fdiv_eq_ediv_of_nonneg _ (by omega)]
  exact Int.ediv_nonneg h0 (by omega)
end DL

namespace DL
open PySem PySem.Spec L2
/-! ## comparisons as tests -/
section
variable {X : Cx} {ω : Ow} {δ : Env} {a b c : Expr} {Φ : Ow → Bool → Prop} {pos : Pos}
theorem nt_cop {op : CmpOp} {r : R2} (ho : OpR X (compareOp op) r) (hm : behindInMarks op b = false) (h : N X ω δ a fun ω1 c1 => N X ω1 δ b fun ω2 c2 => Op2 X r ω2 δ c1 c2 fun ω3 c => isB ω3 (fun ω4 k => Φ ω4 k) c) : NT X ω δ (.Compare a [op] [b] pos) Φ := fun σ H Q s q =>
  WT.of (pt_cmpR ho (WE.pe X a) (WE.pe X b) hm) (h σ H _ s fun ω1 c1 v1 H1 f1 s1 k1 o1 => f1 σ H1 _ s1 fun ω2 c2 v2 H2 f2 s2 k2 o2 => f2 v1 v2 σ H2 _ s2 (o1.mono k2) o2 fun ω3 c3 v3 H3 ⟨k, e3, f3⟩ s3 k3 o3 => by
    subst e3
    cases bool_of o3
    exact ⟨k, rfl, q ω3 k H3 f3 s3 (k1.trans (k2.trans k3))⟩)
theorem nt_lt (h : N X ω δ a fun ω1 c1 => N X ω1 δ b fun ω2 c2 => isI2 ω2 c1 c2 fun i j => Φ ω2 (decide (i < j))) : NT X ω δ (.Compare a [.Lt] [b] pos) Φ :=
  nt_cop op_lt (nomark _) (h.imp fun _ _ h1 => h1.imp fun _ _ ⟨i, j, e1, e2, f⟩ => op2_I0 (G := fun i j => .bool (decide (i < j))) (fun _ _ i j => .bl _) ⟨i, j, e1, e2, _, rfl, f⟩)
theorem nt_le (h : N X ω δ a fun ω1 c1 => N X ω1 δ b fun ω2 c2 => isI2 ω2 c1 c2 fun i j => Φ ω2 (decide (i ≤ j))) : NT X ω δ (.Compare a [.LtE] [b] pos) Φ :=
  nt_cop op_le (nomark _) (h.imp fun _ _ h1 => h1.imp fun _ _ ⟨i, j, e1, e2, f⟩ => op2_I0 (G := fun i j => .bool (decide (i ≤ j))) (fun _ _ i j => .bl _) ⟨i, j, e1, e2, _, rfl, f⟩)
theorem nt_gt (h : N X ω δ a fun ω1 c1 => N X ω1 δ b fun ω2 c2 => isI2 ω2 c1 c2 fun i j => Φ ω2 (decide (j < i))) : NT X ω δ (.Compare a [.Gt] [b] pos) Φ :=
  nt_cop op_gt (nomark _) (h.imp fun _ _ h1 => h1.imp fun _ _ ⟨i, j, e1, e2, f⟩ => op2_I0 (G := fun i j => .bool (decide (j < i))) (fun _ _ i j => .bl _) ⟨i, j, e1, e2, _, rfl, f⟩)
theorem nt_ge (h : N X ω δ a fun ω1 c1 => N X ω1 δ b fun ω2 c2 => isI2 ω2 c1 c2 fun i j => Φ ω2 (decide (j ≤ i))) : NT X ω δ (.Compare a [.GtE] [b] pos) Φ :=
  nt_cop op_ge (nomark _) (h.imp fun _ _ h1 => h1.imp fun _ _ ⟨i, j, e1, e2, f⟩ => op2_I0 (G := fun i j => .bool (decide (j ≤ i))) (fun _ _ i j => .bl _) ⟨i, j, e1, e2, _, rfl, f⟩)
theorem nt_eq (hu : X.A.units + 64 < cLine) (h : N X ω δ a fun ω1 c1 => N X ω1 δ b fun ω2 c2 => ∃ d1 d2, c1 = .dat d1 ∧ c2 = .dat d2 ∧ SeqAt.shaped d1 = true ∧ SeqAt.shaped d2 = true ∧ Φ ω2 (PyData.eqv d1 d2)) : NT X ω δ (.Compare a [.Eq] [b] pos) Φ :=
  nt_cop (op_eqD hu) (nomark _) (h.imp fun _ _ h1 => h1.imp fun _ _ ⟨d1, d2, e1, e2, g1, g2, f⟩ => op2_eq ⟨d1, d2, e1, e2, g1, g2, _, rfl, f⟩)
theorem nt_ne (hu : X.A.units + 64 < cLine) (h : N X ω δ a fun ω1 c1 => N X ω1 δ b fun ω2 c2 => ∃ d1 d2, c1 = .dat d1 ∧ c2 = .dat d2 ∧ SeqAt.shaped d1 = true ∧ SeqAt.shaped d2 = true ∧ Φ ω2 (!PyData.eqv d1 d2)) : NT X ω δ (.Compare a [.NotEq] [b] pos) Φ :=
  nt_cop (op_neD hu) (nomark _) (h.imp fun _ _ h1 => h1.imp fun _ _ ⟨d1, d2, e1, e2, g1, g2, f⟩ => op2_ne ⟨d1, d2, e1, e2, g1, g2, _, rfl, f⟩)
theorem nt_in (hm : behindInMarks .In b = false) (h : N X ω δ a fun ω1 c1 => N X ω1 δ b fun ω2 c2 => ∃ d ds, c1 = .dat d ∧ (c2 = .dat (.tuple ds) ∨ c2 = .dat (.list ds)) ∧ flatD d = true ∧ ds.all flatD = true ∧ Φ ω2 (inD d ds)) : NT X ω δ (.Compare a [.In] [b] pos) Φ :=
  nt_cop op_in_seq hm (h.imp fun _ _ h1 => h1.imp fun _ _ ⟨d, ds, e1, e2, g1, g2, f⟩ => op2_in ⟨d, ds, e1, e2, g1, g2, _, rfl, f⟩)
theorem nt_isN (h : N X ω δ a fun ω1 c1 => ∃ d, c1 = .dat d ∧ Φ ω1 (isNone d)) {j p2} : NT X ω δ (.Compare a [.Is] [.Constant .none j p2] pos) Φ := fun σ H Q s q =>
  WT.of (pt_cmp (pc_isN (WE.pe X a))) (h σ H _ s fun ω1 c v H1 ⟨d, e1, f1⟩ s1 k1 o1 => by
    subst e1
    exact ⟨_, rfl, by rw [rp_non o1]; exact q ω1 _ H1 f1 s1 k1⟩)
theorem nt_notN (h : N X ω δ a fun ω1 c1 => ∃ d, c1 = .dat d ∧ Φ ω1 (!isNone d)) {j p2} : NT X ω δ (.Compare a [.IsNot] [.Constant .none j p2] pos) Φ := fun σ H Q s q =>
  WT.of (pt_cmp (pc_notN (WE.pe X a))) (h σ H _ s fun ω1 c v H1 ⟨d, e1, f1⟩ s1 k1 o1 => by
    subst e1
    exact ⟨_, rfl, by rw [rp_non o1]; exact q ω1 _ H1 f1 s1 k1⟩)
theorem nt_chainI {op op' : CmpOp} {g g' : Int → Int → Bool} (ho : OpR X (compareOp op) (rI0 fun i j => .bl (g i j))) (ho' : OpR X (compareOp op') (rI0 fun i j => .bl (g' i j)))
    (h : N X ω δ a fun ω1 c1 => N X ω1 δ b fun ω2 c2 => ∃ i j, c1 = .dat (.int i) ∧ c2 = .dat (.int j) ∧ if g i j = true then N X ω2 δ c (fun ω3 c3 => ∃ k, c3 = .dat (.int k) ∧ Φ ω3 (g' j k)) else Φ ω2 false)
    (hl : lastMarks [op, op'] [b, c] = false := by rfl) : NT X ω δ (.Compare a [op, op'] [b, c] pos) Φ := fun σ H Q s q =>
  WT.of (pt_chain ho ho' (WE.pe X a) (WE.pe X b) (WE.pe X c) hl) (h σ H _ s fun ω1 c1 v1 H1 f1 s1 k1 o1 => f1 σ H1 _ s1 fun ω2 c2 v2 H2 ⟨i, j, e1, e2, f2⟩ s2 k2 o2 => by
    subst e1; subst e2
    cases int_of o1; cases int_of o2
    refine ⟨i, j, rfl, rfl, g i j, rfl, ?_⟩
    cases hg : g i j with
    | true =>
      rw [hg] at f2
      exact f2 σ H2 _ s2 fun ω3 c3 v3 H3 ⟨k, e3, f3⟩ s3 k3 o3 => by
        subst e3
        cases int_of o3
        exact ⟨j, k, rfl, rfl, _, rfl, q ω3 _ H3 f3 s3 (k1.trans (k2.trans k3))⟩
    | false =>
      rw [hg] at f2
      exact ⟨false, rfl, q ω2 _ H2 f2 s2 (k1.trans k2)⟩)
end
end DL

namespace DL
open PySem PySem.Spec L2
/-! ## what is shown -/
def nestD : Nat → PyData
  | 0 => .list []
  | n + 1 => .list [nestD n]
def nestC : Con := fun cs ω Φ => ∃ n : Nat, cs = [.dat (.int (n : Int))] ∧ n ≤ 40 ∧ Φ ω (.dat (nestD n))
/-- decided once by the kernel -/
def showsB (d : PyData) : Bool := d.showable && decide (d.depth ≤ 80) && decide (d.shown.length ≤ sizeLine)
theorem shows_of {d : PyData} (h : showsB d = true) : Shows d := by
  unfold showsB at h
  simp only [Bool.and_eq_true, decide_eq_true_eq] at h
  exact ⟨h.1.1, h.1.2, h.2⟩
/-! ## texts compared -/
def isS2 (ω : Ow) (c1 c2 : Cell) (P : Str → Str → Prop) : Prop := ∃ i j, c1 = .dat (.str i) ∧ c2 = .dat (.str j) ∧ P i j
section
variable {X : Cx} {ω : Ow} {δ : Env} {a b : Expr} {pos : Pos}
theorem op2_eqS {Φ : Ow → Cell → Prop} {c1 c2 : Cell} (h : isS2 ω c1 c2 fun i j => Φ ω (.dat (.bool (decide (i = j))))) : Op2 X rEq ω δ c1 c2 Φ := fun x y σ H Q s o1 o2 q => by
  obtain ⟨i, j, e1, e2, f⟩ := h
  subst e1; subst e2
  cases str_of o1; cases str_of o2
  refine ⟨rfl, ?_⟩
  rw [show decide (V.str i = V.str j) = decide (i = j) by rw [dec_str]; exact (Bool.beq_eq_decide_eq i j)]
  exact q ω _ _ H f s (Kp.refl _ _) (Rp.bl _)
theorem op2_neS {Φ : Ow → Cell → Prop} {c1 c2 : Cell} (h : isS2 ω c1 c2 fun i j => Φ ω (.dat (.bool (!decide (i = j))))) : Op2 X rNe ω δ c1 c2 Φ := fun x y σ H Q s o1 o2 q => by
  obtain ⟨i, j, e1, e2, f⟩ := h
  subst e1; subst e2
  cases str_of o1; cases str_of o2
  refine ⟨rfl, ?_⟩
  rw [show decide (V.str i = V.str j) = decide (i = j) by rw [dec_str]; exact (Bool.beq_eq_decide_eq i j)]
  exact q ω _ _ H f s (Kp.refl _ _) (Rp.bl _)
theorem n_eqS {Φ : Ow → Cell → Prop} (h : N X ω δ a fun ω1 c1 => N X ω1 δ b fun ω2 c2 => isS2 ω2 c1 c2 fun i j => Φ ω2 (.dat (.bool (decide (i = j))))) : N X ω δ (.Compare a [.Eq] [b] pos) Φ :=
  n_cop op_eq (nomark _) (h.imp fun _ _ h1 => h1.imp fun _ _ h2 => op2_eqS h2)
theorem n_neS {Φ : Ow → Cell → Prop} (h : N X ω δ a fun ω1 c1 => N X ω1 δ b fun ω2 c2 => isS2 ω2 c1 c2 fun i j => Φ ω2 (.dat (.bool (!decide (i = j))))) : N X ω δ (.Compare a [.NotEq] [b] pos) Φ :=
  n_cop op_ne (nomark _) (h.imp fun _ _ h1 => h1.imp fun _ _ h2 => op2_neS h2)
theorem nt_eqS {Φ : Ow → Bool → Prop} (h : N X ω δ a fun ω1 c1 => N X ω1 δ b fun ω2 c2 => isS2 ω2 c1 c2 fun i j => Φ ω2 (decide (i = j))) : NT X ω δ (.Compare a [.Eq] [b] pos) Φ :=
  nt_cop op_eq (nomark _) (h.imp fun _ _ h1 => h1.imp fun _ _ ⟨i, j, e1, e2, f⟩ => op2_eqS ⟨i, j, e1, e2, _, rfl, f⟩)
theorem nt_neS {Φ : Ow → Bool → Prop} (h : N X ω δ a fun ω1 c1 => N X ω1 δ b fun ω2 c2 => isS2 ω2 c1 c2 fun i j => Φ ω2 (!decide (i = j))) : NT X ω δ (.Compare a [.NotEq] [b] pos) Φ :=
  nt_cop op_ne (nomark _) (h.imp fun _ _ h1 => h1.imp fun _ _ ⟨i, j, e1, e2, f⟩ => op2_neS ⟨i, j, e1, e2, _, rfl, f⟩)
end
end DL

namespace DL
open PySem PySem.Spec L2
def undat : List Cell → Option (List PyData)
  | [] => some []
  | .dat d :: r => match undat r with
    | some ds => some (d :: ds)
    | none => none
  | _ => none
theorem undat_dats : ∀ {cs : List Cell} {ds : List PyData}, undat cs = some ds → cs = dats ds
  | [], _, h => by cases h; rfl
  | .dat d :: r, ds, h => by
    unfold undat at h
    cases q : undat r with
    | none => rw [q] at h; cases h
    | some es => rw [q] at h; cases h; rw [undat_dats q]; rfl
  | .raw _ :: _, _, h => by cases h
  | .scr _ :: _, _, h => by cases h
section
variable {X : Cx} {ω : Ow} {δ : Env} {k v : Expr} {es : List Expr} {Φ : Ow → Cell → Prop} {pos : Pos}
theorem n_tupU {x1} (h : NA X ω δ es fun ω1 cs => ∃ ds, undat cs = some ds ∧ Nat.ble ds.length 1000 = true ∧ Φ ω1 (.dat (.tuple ds))) : N X ω δ (.Tuple es x1 pos) Φ :=
  n_tup fun σ H Q s q => h σ H Q s fun ω1 cs vs H1 ⟨ds, e1, z, f⟩ => q ω1 cs vs H1 ⟨ds, undat_dats e1, Nat.le_of_ble_eq_true z, f⟩
theorem n_lstU (h : NA X ω δ es fun ω1 cs => ∃ ds, undat cs = some ds ∧ Nat.ble ds.length 1000 = true ∧ Φ ω1 (.dat (.list ds))) : N X ω δ (.List es pos) Φ :=
  n_lst fun σ H Q s q => h σ H Q s fun ω1 cs vs H1 ⟨ds, e1, z, f⟩ => q ω1 cs vs H1 ⟨ds, undat_dats e1, Nat.le_of_ble_eq_true z, f⟩
theorem n_lstOU (h : NA X ω δ es fun ω1 cs => ∃ ds, undat cs = some ds ∧ Nat.ble ds.length 1000 = true ∧ ∀ p, Φ ((p, lstP ds) :: ω1) (.raw (.ref p))) : N X ω δ (.List es pos) Φ :=
  n_lstO fun σ H Q s q => h σ H Q s fun ω1 cs vs H1 ⟨ds, e1, z, f⟩ => q ω1 cs vs H1 ⟨ds, undat_dats e1, Nat.le_of_ble_eq_true z, f⟩
theorem new_dic {K : PySem.W.Frag} {H : Hp} {p : Addr} {kvs : List (Key × V)} {ds : List (PyData × PyData)} (h : OwnOk K ω H) (hp : H p = none) (r : RpK K (hid (dom ω) H) kvs ds) : Rp K (hid (dom ω) (upd H p (.dK kvs))) (.ref p) (.dict ds) :=
  .dic (by rw [hid_out (h.notin hp), upd_same]) (r.mono (kp_new h hp))
theorem n_dict0 (h : Φ ω (.dat (.dict []))) : N X ω δ (.Dict [] [] pos) Φ :=
  n_lift pe_dnewK fun σ H Q s q p hp => q ω _ _ _ h (s.new hp) (kp_new s.own hp) (new_dic s.own hp .nil)
def dkP : OwnP := ⟨fun _ _ o => o = .dK [], fun _ _ _ _ _ h => h⟩
theorem n_dict1 (h : ∀ p, N X ((p, dkP) :: ω) δ k fun ω1 c1 => ∃ (ω' : Ow) (y : Key), ω1 = (p, dkP) :: ω' ∧ c1 = .dat (keyD y) ∧ N X ω1 δ v fun ω2 c2 => ∃ (ω3 : Ow) (d : PyData), ω2 = (p, dkP) :: ω3 ∧ c2 = .dat d ∧ Φ ω3 (.dat (.dict [(keyD y, d)]))) : N X ω δ (.Dict [some k] [v] pos) Φ :=
  n_lift (pe_disp (pps_cons (WE.pe X k) (WE.pe X v) pps_nil) rfl rfl (fun z => by cases z) (Nat.le_of_ble_eq_true rfl)) fun σ H Q s q p hp => by
    have k0 := (s.own.cons (P := dkP) hp rfl).2
    refine h p σ _ _ (s.cons (P := dkP) hp rfl) fun ω1 c1 v1 H1 ⟨ω', y, e1, e2, f1⟩ s1 k1 o1 => ?_
    subst e1; subst e2
    refine f1 σ H1 _ s1 fun ω2 c2 v2 H2 ⟨ω3, d, e3, e4, f2⟩ s2 k2 o2 => ?_
    subst e3; subst e4
    have hv1 : v1 = kV y := by cases y <;> (cases o1; rfl)
    subst hv1
    obtain ⟨o, h1, h2⟩ := s2.own.at_ p _ List.mem_cons_self
    have h2' : o = .dK [] := h2
    subst h2'
    refine ⟨h1, [(y, v2)], rfl, Nat.le_of_ble_eq_true rfl, ?_⟩
    have nd := List.nodup_cons.mp s2.own.nd
    have kk : Kp (dom ((p, dkP) :: ω3)) H2 (dom ω3) (upd H2 p (.dK (mergeK [] [(y, v2)]))) := (kp_upd List.mem_cons_self).trans (kp_drop (P := dkP))
    have oo : OwnOk X.K ω3 (upd H2 p (.dK (mergeK [] [(y, v2)]))) := by
      refine ⟨nd.2, fun a R z => ?_⟩
      obtain ⟨u, g1, g2⟩ := s2.own.at_ a R (List.mem_cons_of_mem _ z)
      have hne : a ≠ p := fun e => nd.1 (List.mem_map.mpr ⟨(a, R), z, e⟩)
      exact ⟨u, by rw [upd_ne hne]; exact g1, R.mono _ _ _ _ kk g2⟩
    refine q ω3 _ _ _ f2 ⟨s2.env.mono kk, oo⟩ (k0.trans (k1.trans (k2.trans kk))) ?_
    exact .dic (by rw [hid_out nd.1, upd_same]; rfl) (.cons (o2.mono (c := .dat d) kk) .nil)
end
end DL

namespace DL
open PySem PySem.Spec L2
/-! ## a bound of what is shown that is soon reckoned -/
mutual
def lenB : PyData → Nat
  | .none => 4
  | .bool _ => 5
  | .int i => i.natAbs.log2 + 3
  | .str x => if (x.cps.toList.all fun c => decide (c < 16 ^ 8)) = true then 10 * x.length + 2 else (reprText x).length
  | .list xs => 2 + lenA xs
  | .tuple xs => 4 + lenA xs
  | .dict kvs => 2 + lenK kvs
def lenA : List PyData → Nat
  | [] => 0
  | x :: r => lenB x + 2 + lenA r
def lenK : List (PyData × PyData) → Nat
  | [] => 0
  | (k, v) :: r => lenB k + lenB v + 4 + lenK r
end
theorem textFrom_le : ∀ (ts : List Str) (k : Nat) (acc : Str), (textFrom k acc ts).length ≤ acc.length + piled ts
  | [], k, acc => Nat.le_refl _
  | t :: r, k, acc => by
    have h := textFrom_le r (k + 1) (acc ++ (if k > 0 then ", " else "" : String) ++ t)
    rw [Str.length_append, Str.length_append] at h
    have h2 : (Str.ofString (if k > 0 then ", " else "" : String)).length ≤ 2 := by split <;> decide
    rw [piled_cons]
    show (textFrom (k + 1) (acc ++ (if k > 0 then ", " else "" : String) ++ t) r).length ≤ _
    omega
theorem listText_le (ts : List Str) : (listText ts).length ≤ 2 + piled ts := by
  unfold listText
  rw [Str.length_append]
  have h := textFrom_le ts 0 "["
  have e1 : (Str.ofString "[").length = 1 := by decide
  have e2 : (Str.ofString "]").length = 1 := by decide
  omega
theorem tupleText_le (ts : List Str) : (tupleText ts).length ≤ 4 + piled ts := by
  unfold tupleText
  rw [Str.length_append, Str.length_append]
  have e1 : (Str.ofString "(").length = 1 := by decide
  have e2 : (Str.ofString (if ts.length == 1 then ",)" else ")" : String)).length ≤ 2 := by split <;> decide
  have e3 : (Str.join ", " ts).length ≤ piled ts := by
    cases ts with
    | nil => decide
    | cons t r => have := join_length_add (t :: r) (by simp); omega
  omega
theorem dictText_le (ts : List Str) : (dictText ts).length ≤ 2 + piled ts := by
  unfold dictText
  rw [Str.length_append, Str.length_append]
  have e1 : (Str.ofString "{").length = 1 := by decide
  have e2 : (Str.ofString "}").length = 1 := by decide
  have e3 : (Str.join ", " ts).length ≤ piled ts := by
    cases ts with
    | nil => decide
    | cons t r => have := join_length_add (t :: r) (by simp); omega
  omega
theorem int_le (i : Int) : (Str.ofString (toString i)).length ≤ i.natAbs.log2 + 3 := by
  rw [PySem.ofString_length]
  have := PySem.int_text_length_le (a := i) (k := i.natAbs.log2 + 1) (by omega) (by omega)
  omega
mutual
theorem shown_le : ∀ d : PyData, d.shown.length ≤ lenB d
  | .none => by decide
  | .bool b => by cases b <;> decide
  | .int i => int_le i
  | .str x => by
    show (reprText x).length ≤ (if (x.cps.toList.all fun c => decide (c < 16 ^ 8)) = true then 10 * x.length + 2 else (reprText x).length)
    split
    · rename_i h
      exact PySem.StrLaws.reprText_len x fun c hc => of_decide_eq_true (List.all_eq_true.mp h c hc)
    · exact Nat.le_refl _
  | .list xs => by
    have h1 := listText_le (PyData.shownAll xs)
    have h2 := shownAll_le xs
    show (listText (PyData.shownAll xs)).length ≤ 2 + lenA xs
    omega
  | .tuple xs => by
    have h1 := tupleText_le (PyData.shownAll xs)
    have h2 := shownAll_le xs
    show (tupleText (PyData.shownAll xs)).length ≤ 4 + lenA xs
    omega
  | .dict kvs => by
    have h1 := dictText_le (PyData.shownKv kvs)
    have h2 := shownKv_le kvs
    show (dictText (PyData.shownKv kvs)).length ≤ 2 + lenK kvs
    omega
theorem shownAll_le : ∀ ds : List PyData, piled (PyData.shownAll ds) ≤ lenA ds
  | [] => Nat.le_refl _
  | d :: r => by
    have h1 := shown_le d
    have h2 := shownAll_le r
    show piled (d.shown :: PyData.shownAll r) ≤ lenB d + 2 + lenA r
    rw [piled_cons]
    omega
theorem shownKv_le : ∀ ds : List (PyData × PyData), piled (PyData.shownKv ds) ≤ lenK ds
  | [] => Nat.le_refl _
  | (k, v) :: r => by
    have h1 := shown_le k
    have h2 := shown_le v
    have h3 := shownKv_le r
    show piled ((k.shown ++ ": " ++ v.shown) :: PyData.shownKv r) ≤ lenB k + lenB v + 4 + lenK r
    rw [piled_cons, Str.length_append, Str.length_append]
    have e2 : (Str.ofString ": ").length = 2 := by decide
    omega
end
/-- decided once by the kernel -/
def showsC (n : Nat) (d : PyData) : Bool := d.showable && decide (d.depth ≤ 60) && decide (lenB d ≤ n)
/-- d is shown in at most n signs, by a bound that adds up -/
structure ShowsN (n : Nat) (d : PyData) : Prop where
  ok : d.showable = true
  dp : d.depth ≤ 60
  sz : lenB d ≤ n
theorem showsN_of {n : Nat} {d : PyData} (h : showsC n d = true) : ShowsN n d := by
  unfold showsC at h
  simp only [Bool.and_eq_true, decide_eq_true_eq] at h
  exact ⟨h.1.1, h.1.2, h.2⟩
theorem ShowsN.shows {n : Nat} {d : PyData} (h : ShowsN n d) (hn : n ≤ 1000000 := by decide) : Shows d :=
  ⟨h.ok, Nat.le_trans h.dp (by decide), Nat.le_trans (shown_le d) (Nat.le_trans h.sz (Nat.le_trans hn (by decide)))⟩
theorem ShowsN.mono {n m : Nat} {d : PyData} (h : ShowsN n d) (l : n ≤ m) : ShowsN m d := ⟨h.ok, h.dp, Nat.le_trans h.sz l⟩
theorem shows_int {i : Int} {k : Nat} (h : i.natAbs.log2 ≤ k) (hk : k ≤ 1900 := by decide) : ShowsN (k + 3) (.int i) := ⟨by simp [PyData.showable]; omega, Nat.zero_le _, Nat.add_le_add_right h 3⟩
theorem shows_bool (b : Bool) : ShowsN 5 (.bool b) := ⟨rfl, Nat.zero_le _, Nat.le_refl _⟩
/-- a list of at most m things, each so shown, each of depth at most p -/
theorem shows_all {n p : Nat} : ∀ {ds : List PyData}, (∀ d ∈ ds, ShowsN n d ∧ d.depth ≤ p) → PyData.showableAll ds = true ∧ PyData.depthAll ds ≤ p ∧ lenA ds ≤ ds.length * (n + 2)
  | [], _ => ⟨rfl, Nat.zero_le _, Nat.zero_le _⟩
  | d :: r, h => by
    obtain ⟨h1, h2, h3⟩ := shows_all (ds := r) fun e he => h e (List.mem_cons_of_mem _ he)
    obtain ⟨g1, g2⟩ := h d List.mem_cons_self
    refine ⟨?_, ?_, ?_⟩
    · show (d.showable && PyData.showableAll r) = true
      rw [g1.ok, h1]; rfl
    · simp only [PyData.depthAll]
      exact Nat.max_le.mpr ⟨g2, h2⟩
    · show lenB d + 2 + lenA r ≤ (r.length + 1) * (n + 2)
      rw [Nat.add_mul]
      have := g1.sz
      omega
theorem shows_list {n p : Nat} {ds : List PyData} (h : ∀ d ∈ ds, ShowsN n d ∧ d.depth ≤ p) (hp : p < 60 := by decide) : ShowsN (2 + ds.length * (n + 2)) (.list ds) := by
  obtain ⟨h1, h2, h3⟩ := shows_all h
  refine ⟨h1, ?_, Nat.add_le_add_left h3 2⟩
  simp only [PyData.depth]
  omega
theorem shows_tuple {n p : Nat} {ds : List PyData} (h : ∀ d ∈ ds, ShowsN n d ∧ d.depth ≤ p) (hp : p < 60 := by decide) : ShowsN (4 + ds.length * (n + 2)) (.tuple ds) := by
  obtain ⟨h1, h2, h3⟩ := shows_all h
  refine ⟨h1, ?_, Nat.add_le_add_left h3 4⟩
  simp only [PyData.depth]
  omega
theorem rep_list (z : Array Nat) : ∀ (n : Nat) (acc : Array Nat), ((List.replicate n z).foldl (· ++ ·) acc).toList = acc.toList ++ (List.replicate n z.toList).flatten
  | 0, acc => by simp
  | n + 1, acc => by
    rw [List.replicate_succ, List.foldl_cons, rep_list z n, List.replicate_succ, List.flatten_cons, Array.toList_append, List.append_assoc]
theorem repS_list (z : Str) (k : Int) : (repS z k).cps.toList = (List.replicate k.toNat z.cps.toList).flatten := by
  unfold repS
  rw [rep_list]
  rfl
theorem repS_len (z : Str) (k : Int) : (repS z k).length = z.length * k.toNat := by
  show (repS z k).cps.size = z.cps.size * k.toNat
  rw [← Array.length_toList, repS_list, List.length_flatten, List.map_replicate, List.sum_replicate_nat, Array.length_toList, Nat.mul_comm]
theorem shows_rep {z : Str} {k : Int} (h : (z.cps.toList.all fun c => decide (c < 16 ^ 8)) = true) : ShowsN (10 * (z.length * k.toNat) + 2) (.str (repS z k)) := by
  refine ⟨rfl, Nat.zero_le _, ?_⟩
  have e : ((repS z k).cps.toList.all fun c => decide (c < 16 ^ 8)) = true := by
    rw [repS_list, List.all_eq_true]
    intro c hc
    obtain ⟨l, hl, hc⟩ := List.mem_flatten.mp hc
    rw [(List.mem_replicate.mp hl).2] at hc
    exact List.all_eq_true.mp h c hc
  show (if ((repS z k).cps.toList.all fun c => decide (c < 16 ^ 8)) = true then 10 * (repS z k).length + 2 else _) ≤ _
  rw [if_pos e, repS_len]
  exact Nat.le_refl _
/-- 'x' * 900, told by what is shown of it alone -/
theorem n_repX {X : Cx} {ω : Ow} {δ : Env} {a b : Expr} {Φ : Ow → Cell → Prop} {pos : Pos} (h : N X ω δ a fun ω1 c1 => N X ω1 δ b fun ω2 c2 => ∃ z k, c1 = .dat (.str z) ∧ c2 = .dat (.int k) ∧ 2 ≤ k ∧ k ≤ 100000 ∧ 1 ≤ z.length ∧ z.length * k.toNat ≤ 1000000 ∧ (z.cps.toList.all fun c => decide (c < 16 ^ 8)) = true ∧ ∀ y, ShowsN (10 * (z.length * k.toNat) + 2) (.str y) → Φ ω2 (.dat (.str y))) : N X ω δ (.BinOp a .Mult b pos) Φ :=
  n_repS (h.imp fun _ _ h0 => h0.imp fun _ _ ⟨z, k, e1, e2, h1, h2, h3, h4, h5, f⟩ => ⟨z, k, e1, e2, h1, h2, h3, h4, by rw [repS_len]; exact Nat.le_trans h4 (by decide), f _ (shows_rep h5)⟩)
theorem all_app {α : Type} {f : α → Bool} {a b : List α} (h1 : a.all f = true) (h2 : b.all f = true) : (a ++ b).all f = true := by rw [List.all_append, h1, h2]; rfl
theorem all_con {α : Type} {f : α → Bool} {x : α} {b : List α} (h1 : f x = true) (h2 : b.all f = true) : (x :: b).all f = true := by rw [List.all_cons, h1, h2]; rfl
theorem showsC_of {n : Nat} {d : PyData} (h : ShowsN n d) : showsC n d = true := by
  unfold showsC
  rw [h.ok, decide_eq_true h.dp, decide_eq_true h.sz]; rfl
end DL

namespace DL
open PySem PySem.Spec L2
/-- the first owned object is left behind -/
theorem n_drop {X : Cx} {ω : Ow} {δ : DL.Env} {e : Expr} {Φ : Ow → Cell → Prop} (h : N X ω δ e fun ω1 c => ∃ p P ω0, ω1 = (p, P) :: ω0 ∧ Φ ω0 c) : N X ω δ e Φ := fun σ H Q s q =>
  h σ H Q s fun ω1 c v H1 ⟨p, P, ω0, e1, f⟩ s1 k1 o1 => by
    subst e1
    exact q ω0 c v H1 f s1.drop (k1.trans (kp_drop (P := P))) (o1.mono (kp_drop (P := P)))
theorem shaped_mk {d : PyData} (h1 : d.canLay0 = true) (h2 : d.depth ≤ 64) : SeqAt.shaped d = true := by
  unfold SeqAt.shaped
  rw [h1, decide_eq_true h2]; rfl
theorem take_filter {ds : List PyData} {i : Nat} {d : PyData} {f : PyData → Bool} (h : ds[i]? = some d) : (ds.take (i + 1)).filter f = (ds.take i).filter f ++ if f d = true then [d] else [] := by
  rw [List.take_add_one, h, List.filter_append]
  congr 1
  show List.filter f [d] = _
  rw [List.filter_cons]
  split <;> rfl
theorem take_map {ds : List PyData} {i : Nat} {d : PyData} {f : PyData → PyData} (h : ds[i]? = some d) : (ds.take (i + 1)).map f = (ds.take i).map f ++ [f d] := by
  rw [List.take_add_one, h, List.map_append]
  rfl
end DL

namespace DL
open PySem PySem.Spec L2
/-! ## the first owned list let go within a block -/
theorem b_share (i : Nat) {X : Cx} {ω : Ow} {δ : DL.Env} {p : Addr} {ds : List PyData} {sts : List Stmt} {E : En} (hd : δ[i]? = some (some (.raw (.ref p)))) (h : B X ω (δ.set i (some (.dat (.list ds)))) sts E) : B X ((p, lstP ds) :: ω) δ sts E := fun σ H D s f => by
  obtain ⟨v, h1, h2⟩ := s.get hd
  cases h2
  have own := own_lst s.own
  have e : σ.set i (some (.ref p)) = σ := by
    apply List.ext_getElem?
    intro j
    rw [List.getElem?_set]
    split
    · rename_i q
      subst q
      rw [if_pos (List.getElem?_eq_some_iff.mp h1).1, h1]
    · rfl
  have s2 := s.drop.store i (c := .dat (.list ds)) own
  rw [e] at s2
  exact h σ H D s2 (f.after (kp_drop (P := lstP ds)))
/-! ## sizes of what is put together -/
theorem lenA_append : ∀ a b : List PyData, lenA (a ++ b) = lenA a + lenA b
  | [], b => by simp [lenA]
  | x :: a, b => by
    show lenB x + 2 + lenA (a ++ b) = lenB x + 2 + lenA a + lenA b
    rw [lenA_append a b]; omega
theorem show_append : ∀ a b : List PyData, PyData.showableAll (a ++ b) = (PyData.showableAll a && PyData.showableAll b)
  | [], b => rfl
  | x :: a, b => by
    show (x.showable && PyData.showableAll (a ++ b)) = ((x.showable && PyData.showableAll a) && PyData.showableAll b)
    rw [show_append a b, Bool.and_assoc]
theorem depth_append : ∀ (a b : List PyData) {n : Nat}, PyData.depthAll (a ++ b) ≤ n ↔ PyData.depthAll a ≤ n ∧ PyData.depthAll b ≤ n
  | [], b, n => by simp [PyData.depthAll]
  | x :: a, b, n => by
    have := depth_append a b (n := n)
    simp only [List.cons_append, PyData.depthAll, Nat.max_le]
    rw [this, and_assoc]
/-- items that are shown: their sum, their depth -/
structure ShowsA (n k : Nat) (ds : List PyData) : Prop where
  ok : PyData.showableAll ds = true
  dp : PyData.depthAll ds ≤ k
  sz : lenA ds ≤ n
theorem ShowsA.app {n m k : Nat} {a b : List PyData} (h1 : ShowsA n k a) (h2 : ShowsA m k b) : ShowsA (n + m) k (a ++ b) :=
  ⟨by rw [show_append, h1.ok, h2.ok]; rfl, (depth_append a b).mpr ⟨h1.dp, h2.dp⟩, by rw [lenA_append]; exact Nat.add_le_add h1.sz h2.sz⟩
theorem ShowsA.nil {k : Nat} : ShowsA 0 k [] := ⟨rfl, Nat.zero_le _, Nat.le_refl _⟩
theorem ShowsA.one {n k : Nat} {d : PyData} (h : ShowsN n d) (hk : d.depth ≤ k) : ShowsA (n + 2) k [d] :=
  ⟨by show (d.showable && true) = true; rw [h.ok]; rfl, by simp only [PyData.depthAll]; omega, by show lenB d + 2 + 0 ≤ n + 2; have := h.sz; omega⟩
theorem ShowsA.parts {n k : Nat} {a b : List PyData} (h : ShowsA n k (a ++ b)) : ∃ n1 n2, n1 + n2 ≤ n ∧ ShowsA n1 k a ∧ ShowsA n2 k b := by
  have h1 := h.ok
  rw [show_append, Bool.and_eq_true] at h1
  have h2 := (depth_append a b).mp h.dp
  have h3 := h.sz
  rw [lenA_append] at h3
  exact ⟨lenA a, lenA b, h3, ⟨h1.1, h2.1, Nat.le_refl _⟩, ⟨h1.2, h2.2, Nat.le_refl _⟩⟩
theorem ShowsA.mono {n m k j : Nat} {a : List PyData} (h : ShowsA n k a) (l : n ≤ m) (l2 : k ≤ j) : ShowsA m j a := ⟨h.ok, Nat.le_trans h.dp l2, Nat.le_trans h.sz l⟩
theorem ShowsA.tuple {n k : Nat} {a : List PyData} (h : ShowsA n k a) (hk : k < 60) : ShowsN (4 + n) (.tuple a) ∧ (PyData.tuple a).depth ≤ k + 1 :=
  ⟨⟨h.ok, by simp only [PyData.depth]; have := h.dp; omega, Nat.add_le_add_left h.sz 4⟩, by simp only [PyData.depth]; have := h.dp; omega⟩
theorem ShowsA.list {n k : Nat} {a : List PyData} (h : ShowsA n k a) (hk : k < 60) : ShowsN (2 + n) (.list a) ∧ (PyData.list a).depth ≤ k + 1 :=
  ⟨⟨h.ok, by simp only [PyData.depth]; have := h.dp; omega, Nat.add_le_add_left h.sz 2⟩, by simp only [PyData.depth]; have := h.dp; omega⟩
theorem shows_mem : ∀ {ds : List PyData} {n k : Nat} {d : PyData}, ShowsA n k ds → k ≤ 60 → d ∈ ds → ShowsN n d ∧ d.depth ≤ k := by
  intro ds n k d h hk hd
  obtain ⟨a, b, rfl⟩ := List.append_of_mem hd
  obtain ⟨n1, n2, l, h1, h2⟩ := h.parts
  have h3 : ShowsA n2 k ([d] ++ b) := h2
  obtain ⟨m1, m2, l2, g1, g2⟩ := h3.parts
  have e1 : (d.showable && true) = true := g1.ok
  have e2 := g1.dp
  have e3 : lenB d + 2 + 0 ≤ m1 := g1.sz
  simp only [PyData.depthAll] at e2
  exact ⟨⟨by simpa using e1, by omega, by omega⟩, by omega⟩
/-- an owned list, cut: a new datum; its length -/
theorem n_slO (i n : Nat) {X : Cx} {ω : Ow} {δ : DL.Env} {p : Addr} {x : Str} {Φ : Ow → Cell → Prop} {pos p1 p2 : Pos} {lo hi : Option Expr} (hd : δ[i]? = some (some (.raw (.ref p))))
    (h : NO X ω δ lo fun ω2 a => NO X ω2 δ hi fun ω3 b => ∃ ds, ω3[n]? = some (p, lstP ds) ∧ Φ ω3 (.dat (.list (cutD ds a b)))) (hN : X.N[i]? = some x := by rfl)
    (hv : Vis X.env.scope x := by first | exact Or.inl rfl | exact Or.inr (Or.inl rfl) | exact Or.inr (Or.inr rfl)) (hg : (x == ("__debug__" : Str)) = false := by decide) (hcd : (x == ("__classdict__" : Str)) = false := by decide) : N X ω δ (.Subscript (.Name x p1) (.Slice lo hi none p2) pos) Φ :=
  n_lift (pe_slice sl_list (pe_var hN hv hg hcd) (WO.po X lo) (WO.po X hi)) fun σ H Q s q => by
    obtain ⟨v, h1, h2⟩ := s.get hd
    cases h2
    refine ⟨_, h1, h.run σ H _ s fun ω2 a H2 f2 s2 k2 => f2.run σ H2 _ s2 fun ω3 b H3 ⟨ds, hw, f3⟩ s3 k3 => ?_⟩
    obtain ⟨u, g1, vs, rfl, g2⟩ := s3.own.at_ p _ (List.mem_of_getElem? hw)
    exact ⟨_, _, rfl, SqL.of g1, fun l hl => q ω3 _ _ _ f3 (s3.new hl) (k2.trans (k3.trans (kp_new s3.own hl))) (new_lst s3.own hl (cut_rp g2 a b))⟩
end DL

namespace DL
open PySem PySem.Spec L2
/-! ## comprehensions over a tuple -/
section
variable {X : Cx} {ω : Ow} {δ : Env} {e a b c elt iter : Expr} {Φ : Ow → Cell → Prop} {pos p1 p2 p3 : Pos} {x : Str} {scope : Scope}
theorem t_lcT (j : Nat)
    (h : N X ω δ iter fun ω1 c => ∃ ds, c = .dat (.tuple ds) ∧ ∃ J : Nat → Ow → List PyData → Prop, J 0 ω1 [] ∧
      (∀ i ω2 acc D d0, ds[i]? = some d0 → J i ω2 acc → BlkF X scope fun Y => N Y ((D, lstP acc) :: ω2) ((δ.set j none).set j (some (.dat d0))) elt fun ω3 c => ∃ d, c = .dat d ∧ acc.length < 100000 ∧ ∃ ω4, ω3 = (D, lstP acc) :: ω4 ∧ J (i + 1) ω4 (acc ++ [d])) ∧
      ∀ ω2 acc, J ds.length ω2 acc → Φ ω2 (.dat (.list acc))) {σ : St} {H : Hp} {Q : VK} (s : StOk X.K ω δ σ H) (q : ∀ ω' c v H', Φ ω' c → StOk X.K ω' δ σ H' → Kp (dom ω) H (dom ω') H' → CellOk X.K (dom ω') H' v c → Q v H') :
    tLc (iTup X.K (WE X iter)) (gName j) tYes (fun σ H Q => BlkF X scope fun Y => WE Y elt σ H Q) [j] σ H Q :=
  h σ H _ s fun ω1 c v H1 ⟨ds, e1, J, j0, jt, je⟩ s1 k1 o1 => by
    subst e1
    cases o1 with
    | @tup l xs _ hl hr =>
      refine ⟨l, rfl, ⟨xs, sqt_hid hl⟩, fun D hD => ?_⟩
      have hD0 : (lstP []).ok X.K (hid (dom ω1) H1) (.lst []) := ⟨[], rfl, .nil⟩
      refine lc_tup (K := X.K) (a := l) (xs := xs) (g := gName j) (tt := tYes) (te := fun σ H Q => BlkF X scope fun Y => WE Y elt σ H Q) (vs := [j]) (σ := σ) (H1 := H1) (D := D) (Qd := fun H => Q (.ref D) H) (fun i H' => ∃ ω2 acc, J i ω2 acc ∧ StOk X.K ((D, lstP acc) :: ω2) δ σ H' ∧ Kp (dom ω1) H1 (D :: dom ω2) H') ⟨ω1, [], j0, s1.cons hD hD0, (s1.own.cons hD hD0).2⟩ ?_ ?_ ?_
      · rintro i H' _ ⟨ω2, acc, _, _, k2⟩
        exact sqt_hid (seqT k2 hl)
      · rintro i y H' hy ⟨ω2, acc, hJ, s2, k2⟩
        refine ⟨set_wipe, fun s3 H3 C cl fp => ?_⟩
        obtain ⟨d0, hd0, rd0⟩ := hr.get' hy
        have sB : StOk X.K ((D, lstP acc) :: ω2) ((δ.set j none).set j (some (.dat d0))) ((wipe σ [j]).set j (some y)) H' := ⟨(s2.env.wipe j).set (c := .dat d0) (rd0.mono k2) j, s2.own⟩
        refine jt i ω2 acc D d0 hd0 hJ s3 H3 C cl fp _ _ _ sB fun ω3 c v H4 ⟨d, e1, hz, ω4, e2, hJ'⟩ s4 k4 o4 => ?_
        subst e1; subst e2
        obtain ⟨u, m1, vs, rfl, m2⟩ := s4.own.at_ D _ List.mem_cons_self
        have ho : (lstP (acc ++ [d])).ok X.K (hid (dom ((D, lstP acc) :: ω4)) H4) (.lst (vs ++ [v])) := ⟨_, rfl, m2.append (.cons o4 .nil)⟩
        refine ⟨vs, m1, by rw [m2.len]; exact Nat.lt_of_lt_of_le hz (by decide), ω4, _, hJ', ?_, (k2.trans k4).trans (kp_upd List.mem_cons_self)⟩
        have oo := s4.own.put (i := 0) (p := D) (P := lstP acc) rfl ho
        exact ⟨s2.env.mono (k4.trans (kp_upd List.mem_cons_self)), oo⟩
      · rintro H' ⟨ω2, acc, hJ, s2, k2⟩
        rw [hr.len] at hJ
        exact q ω2 _ _ H' (je ω2 acc hJ) s2.drop (k1.trans (k2.trans (kp_drop (P := lstP acc)))) (own_lst s2.own)

theorem n_lcT (j : Nat) (hc : X.calm = true) (hn : X.N.Nodup) (hb : BlkOk X.N X.env.scope scope [(x, j)])
    (h : N X ω δ iter fun ω1 c => ∃ ds, c = .dat (.tuple ds) ∧ ∃ J : Nat → Ow → List PyData → Prop, J 0 ω1 [] ∧
      (∀ i ω2 acc D d0, ds[i]? = some d0 → J i ω2 acc → BlkF X scope fun Y => N Y ((D, lstP acc) :: ω2) ((δ.set j none).set j (some (.dat d0))) elt fun ω3 c => ∃ d, c = .dat d ∧ acc.length < 100000 ∧ ∃ ω4, ω3 = (D, lstP acc) :: ω4 ∧ J (i + 1) ω4 (acc ++ [d])) ∧
      ∀ ω2 acc, J ds.length ω2 acc → Φ ω2 (.dat (.list acc)))
    (hgt : BlkF X scope fun Y => PG Y (.Name x p1) (gName j)) (hs : ∀ y, foldedSetIterable iter X.env y = pure y := by intro _; rfl) : N X ω δ (.ListComp elt [{ target := .Name x p1, iter := iter, ifs := [], is_async := 0 }] scope pos) Φ :=
  n_lift (pe_lc (own := [(x, j)]) (g := gName j) (te := fun σ H Q => BlkF X scope fun Y => WE Y elt σ H Q) hc hn (pi_tup (WE.pe X iter)) hb hgt (fun _ _ _ _ _ => pts_nil) (fun s H C cl fp => ⟨fun pins s' σ' H' Q I q => q s H C cl fp pins s' I⟩) hs) fun σ H Q s q => t_lcT j h s q

theorem s_lcT (i j : Nat) {y : Str} {py spos : Pos} {E : En} (hc : X.calm = true) (hn : X.N.Nodup) (hb : BlkOk X.N X.env.scope scope [(x, j)])
    (h : N X ω δ iter fun ω1 c => ∃ ds, c = .dat (.tuple ds) ∧ ∃ J : Nat → Ow → List PyData → Prop, J 0 ω1 [] ∧
      (∀ i ω2 acc D d0, ds[i]? = some d0 → J i ω2 acc → BlkF X scope fun Y => N Y ((D, lstP acc) :: ω2) ((δ.set j none).set j (some (.dat d0))) elt fun ω3 c => ∃ d, c = .dat d ∧ acc.length < 100000 ∧ ∃ ω4, ω3 = (D, lstP acc) :: ω4 ∧ J (i + 1) ω4 (acc ++ [d])) ∧
      ∀ ω2 acc, J ds.length ω2 acc → E.nx ω2 (δ.set i (some (.dat (.list acc)))))
    (hgt : BlkF X scope fun Y => PG Y (.Name x p1) (gName j)) (hs : ∀ y, foldedSetIterable iter X.env y = pure y := by intro _; rfl)
    (hyN : X.N[i]? = some y := by rfl) (hyl : X.env.scope.names.lookup y = some .local := by rfl) (hkd : X.env.scope.kind = .function := by rfl) (hpl : (py.line == pos.line) = true := by rfl) (hfr : (scope.names.any fun (n, k) => n == y && (k == .local || k == .cell)) = false := by decide +kernel) : S X ω δ (.Assign [.Name y py] (.ListComp elt [{ target := .Name x p1, iter := iter, ifs := [], is_async := 0 }] scope pos) spos) E := fun σ H D s f =>
  WS.of (ps_setLc (i := i) (own := [(x, j)]) (g := gName j) (te := fun σ H Q => BlkF X scope fun Y => WE Y elt σ H Q) hc hn hyN hyl (sw_true hkd hyl hpl hfr) (pi_tup (WE.pe X iter)) hb hgt (fun _ _ _ _ _ => pts_nil) (fun s H C cl fp => ⟨fun pins s' σ' H' Q I q => q s H C cl fp pins s' I⟩) hs) (t_lcT (Φ := fun ω1 c => E.nx ω1 (δ.set i (some c))) j h s fun ω1 c v H1 q s1 k1 o1 => f.nx ω1 _ _ H1 q (s1.store i o1) k1)

theorem t_lcTi (j : Nat) {test : Expr}
    (h : N X ω δ iter fun ω1 c => ∃ ds, c = .dat (.tuple ds) ∧ ∃ J : Nat → Ow → List PyData → Prop, J 0 ω1 [] ∧
      (∀ i ω2 acc D d0, ds[i]? = some d0 → J i ω2 acc → BlkF X scope fun Y => NT Y ((D, lstP acc) :: ω2) ((δ.set j none).set j (some (.dat d0))) test fun ω3 k =>
        if k = true then BlkF X scope fun Y => N Y ω3 ((δ.set j none).set j (some (.dat d0))) elt fun ω3 c => ∃ d, c = .dat d ∧ acc.length < 100000 ∧ ∃ ω4, ω3 = (D, lstP acc) :: ω4 ∧ J (i + 1) ω4 (acc ++ [d]) else ∃ ω4, ω3 = (D, lstP acc) :: ω4 ∧ J (i + 1) ω4 acc) ∧
      ∀ ω2 acc, J ds.length ω2 acc → Φ ω2 (.dat (.list acc))) {σ : St} {H : Hp} {Q : VK} (s : StOk X.K ω δ σ H) (q : ∀ ω' c v H', Φ ω' c → StOk X.K ω' δ σ H' → Kp (dom ω) H (dom ω') H' → CellOk X.K (dom ω') H' v c → Q v H') :
    tLc (iTup X.K (WE X iter)) (gName j) (fun σ H Q => BlkF X scope fun Y => WT Y test σ H Q) (fun σ H Q => BlkF X scope fun Y => WE Y elt σ H Q) [j] σ H Q :=
  h σ H _ s fun ω1 c v H1 ⟨ds, e1, J, j0, jt, je⟩ s1 k1 o1 => by
    subst e1
    cases o1 with
    | @tup l xs _ hl hr =>
      refine ⟨l, rfl, ⟨xs, sqt_hid hl⟩, fun D hD => ?_⟩
      have hD0 : (lstP []).ok X.K (hid (dom ω1) H1) (.lst []) := ⟨[], rfl, .nil⟩
      refine lc_tup (K := X.K) (a := l) (xs := xs) (g := gName j) (tt := fun σ H Q => BlkF X scope fun Y => WT Y test σ H Q) (te := fun σ H Q => BlkF X scope fun Y => WE Y elt σ H Q) (vs := [j]) (σ := σ) (H1 := H1) (D := D) (Qd := fun H => Q (.ref D) H) (fun i H' => ∃ ω2 acc, J i ω2 acc ∧ StOk X.K ((D, lstP acc) :: ω2) δ σ H' ∧ Kp (dom ω1) H1 (D :: dom ω2) H') ⟨ω1, [], j0, s1.cons hD hD0, (s1.own.cons hD hD0).2⟩ ?_ ?_ ?_
      · rintro i H' _ ⟨ω2, acc, _, _, k2⟩
        exact sqt_hid (seqT k2 hl)
      · rintro i y H' hy ⟨ω2, acc, hJ, s2, k2⟩
        refine ⟨set_wipe, fun s3 H3 C cl fp => ?_⟩
        obtain ⟨d0, hd0, rd0⟩ := hr.get' hy
        have sB : StOk X.K ((D, lstP acc) :: ω2) ((δ.set j none).set j (some (.dat d0))) ((wipe σ [j]).set j (some y)) H' := ⟨(s2.env.wipe j).set (c := .dat d0) (rd0.mono k2) j, s2.own⟩
        refine jt i ω2 acc D d0 hd0 hJ s3 H3 C cl fp _ _ _ sB fun ω5 k H5 f5 s5 k5 => ?_
        cases k with
        | true =>
          refine fun s6 H6 C6 cl6 fp6 => f5 s6 H6 C6 cl6 fp6 _ _ _ s5 fun ω3 c v H4 ⟨d, e1, hz, ω4, e2, hJ'⟩ s4 k4 o4 => ?_
          subst e1; subst e2
          obtain ⟨u, m1, vs, rfl, m2⟩ := s4.own.at_ D _ List.mem_cons_self
          have ho : (lstP (acc ++ [d])).ok X.K (hid (dom ((D, lstP acc) :: ω4)) H4) (.lst (vs ++ [v])) := ⟨_, rfl, m2.append (.cons o4 .nil)⟩
          refine ⟨vs, m1, by rw [m2.len]; exact Nat.lt_of_lt_of_le hz (by decide), ω4, _, hJ', ?_, (k2.trans (k5.trans k4)).trans (kp_upd List.mem_cons_self)⟩
          have oo := s4.own.put (i := 0) (p := D) (P := lstP acc) rfl ho
          exact ⟨s2.env.mono ((k5.trans k4).trans (kp_upd List.mem_cons_self)), oo⟩
        | false =>
          obtain ⟨ω4, e2, hJ'⟩ := f5
          subst e2
          exact ⟨ω4, acc, hJ', ⟨s2.env.mono k5, s5.own⟩, k2.trans k5⟩
      · rintro H' ⟨ω2, acc, hJ, s2, k2⟩
        rw [hr.len] at hJ
        exact q ω2 _ _ H' (je ω2 acc hJ) s2.drop (k1.trans (k2.trans (kp_drop (P := lstP acc)))) (own_lst s2.own)

theorem n_lcTi (j : Nat) {test : Expr} (hc : X.calm = true) (hn : X.N.Nodup) (hb : BlkOk X.N X.env.scope scope [(x, j)])
    (h : N X ω δ iter fun ω1 c => ∃ ds, c = .dat (.tuple ds) ∧ ∃ J : Nat → Ow → List PyData → Prop, J 0 ω1 [] ∧
      (∀ i ω2 acc D d0, ds[i]? = some d0 → J i ω2 acc → BlkF X scope fun Y => NT Y ((D, lstP acc) :: ω2) ((δ.set j none).set j (some (.dat d0))) test fun ω3 k =>
        if k = true then BlkF X scope fun Y => N Y ω3 ((δ.set j none).set j (some (.dat d0))) elt fun ω3 c => ∃ d, c = .dat d ∧ acc.length < 100000 ∧ ∃ ω4, ω3 = (D, lstP acc) :: ω4 ∧ J (i + 1) ω4 (acc ++ [d]) else ∃ ω4, ω3 = (D, lstP acc) :: ω4 ∧ J (i + 1) ω4 acc) ∧
      ∀ ω2 acc, J ds.length ω2 acc → Φ ω2 (.dat (.list acc)))
    (hgt : BlkF X scope fun Y => PG Y (.Name x p1) (gName j)) (hs : ∀ y, foldedSetIterable iter X.env y = pure y := by intro _; rfl) : N X ω δ (.ListComp elt [{ target := .Name x p1, iter := iter, ifs := [test], is_async := 0 }] scope pos) Φ :=
  n_lift (pe_lc (own := [(x, j)]) (g := gName j) (tt := fun σ H Q => BlkF X scope fun Y => WT Y test σ H Q) (te := fun σ H Q => BlkF X scope fun Y => WE Y elt σ H Q) hc hn (pi_tup (WE.pe X iter)) hb hgt (fun s H C cl fp => pts_one ⟨fun pins s' σ' H' Q I q => q s H C cl fp pins s' I⟩) (fun s H C cl fp => ⟨fun pins s' σ' H' Q I q => q s H C cl fp pins s' I⟩) hs) fun σ H Q s q => t_lcTi j h s q

theorem s_lcTi (i j : Nat) {y : Str} {py spos : Pos} {E : En} {test : Expr} (hc : X.calm = true) (hn : X.N.Nodup) (hb : BlkOk X.N X.env.scope scope [(x, j)])
    (h : N X ω δ iter fun ω1 c => ∃ ds, c = .dat (.tuple ds) ∧ ∃ J : Nat → Ow → List PyData → Prop, J 0 ω1 [] ∧
      (∀ i ω2 acc D d0, ds[i]? = some d0 → J i ω2 acc → BlkF X scope fun Y => NT Y ((D, lstP acc) :: ω2) ((δ.set j none).set j (some (.dat d0))) test fun ω3 k =>
        if k = true then BlkF X scope fun Y => N Y ω3 ((δ.set j none).set j (some (.dat d0))) elt fun ω3 c => ∃ d, c = .dat d ∧ acc.length < 100000 ∧ ∃ ω4, ω3 = (D, lstP acc) :: ω4 ∧ J (i + 1) ω4 (acc ++ [d]) else ∃ ω4, ω3 = (D, lstP acc) :: ω4 ∧ J (i + 1) ω4 acc) ∧
      ∀ ω2 acc, J ds.length ω2 acc → E.nx ω2 (δ.set i (some (.dat (.list acc)))))
    (hgt : BlkF X scope fun Y => PG Y (.Name x p1) (gName j)) (hs : ∀ y, foldedSetIterable iter X.env y = pure y := by intro _; rfl)
    (hyN : X.N[i]? = some y := by rfl) (hyl : X.env.scope.names.lookup y = some .local := by rfl) (hkd : X.env.scope.kind = .function := by rfl) (hpl : (py.line == pos.line) = true := by rfl) (hfr : (scope.names.any fun (n, k) => n == y && (k == .local || k == .cell)) = false := by decide +kernel) : S X ω δ (.Assign [.Name y py] (.ListComp elt [{ target := .Name x p1, iter := iter, ifs := [test], is_async := 0 }] scope pos) spos) E := fun σ H D s f =>
  WS.of (ps_setLc (i := i) (own := [(x, j)]) (g := gName j) (tt := fun σ H Q => BlkF X scope fun Y => WT Y test σ H Q) (te := fun σ H Q => BlkF X scope fun Y => WE Y elt σ H Q) hc hn hyN hyl (sw_true hkd hyl hpl hfr) (pi_tup (WE.pe X iter)) hb hgt (fun s H C cl fp => pts_one ⟨fun pins s' σ' H' Q I q => q s H C cl fp pins s' I⟩) (fun s H C cl fp => ⟨fun pins s' σ' H' Q I q => q s H C cl fp pins s' I⟩) hs) (t_lcTi (Φ := fun ω1 c => E.nx ω1 (δ.set i (some c))) j h s fun ω1 c v H1 q s1 k1 o1 => f.nx ω1 _ _ H1 q (s1.store i o1) k1)
end
theorem cut2 {α : Type} (a b : α) (r : List α) : cutD (a :: b :: r) (some 2) none = r := by
  unfold cutD
  rw [show HT.sIx (a :: b :: r).length 0 (some 2) = min 2 (a :: b :: r).length from HT.sIx_nat _ 0 2, HT.sIx_none]
  have : min 2 (a :: b :: r).length = 2 := by rw [List.length_cons, List.length_cons]; omega
  rw [this]
  show List.take ((a :: b :: r).length - 2) r = r
  exact List.take_of_length_le (by simp)
theorem cut1 {α : Type} (a : α) (r : List α) : cutD (a :: r) none (some 1) = [a] := by
  unfold cutD
  rw [show HT.sIx (a :: r).length (a :: r).length (some 1) = min 1 (a :: r).length from HT.sIx_nat _ _ 1, HT.sIx_none]
  have : min 1 (a :: r).length = 1 := by rw [List.length_cons]; omega
  rw [this]
  rfl
end DL

namespace DL
open PySem PySem.Spec L2
/-! ## == of a list with the empty one -/
def rLens : R2 := fun x y H Q => ∃ a b xs ys, x = .ref a ∧ y = .ref b ∧ H a = some (.lst xs) ∧ H b = some (.lst ys) ∧ xs.length ≠ ys.length ∧ Q (.bl false) H
def rEqE (K : PySem.W.Frag) : R2 := fun x y H Q => rEqD K x y H Q ∨ rLens x y H Q
section
variable {X : Cx} {ω : Ow} {δ : Env} {a b : Expr} {pos : Pos}
theorem op_lens (hu : X.A.units + 64 < cLine) : OpR X (compareOp .Eq) rLens := by
  intro pins s σ H x y v u Q I rx ry h
  obtain ⟨a, b, xs, ys, rfl, rfl, ea, eb, hl, q⟩ := h
  cases rx
  cases ry
  obtain ⟨z, its, k, r, e⟩ := I.hok a _ ea
  obtain ⟨z2, its2, k2, r2, e2⟩ := I.hok b _ eb
  have hs : (its.toArray.size != its2.toArray.size) = true := by
    rw [List.size_toArray, List.size_toArray, ← r.length, ← r2.length]; simpa using hl
  exact SeqAt.RcAt.lists_lengths (A := X.A) ⟨_, e, rfl, _, rfl⟩ ⟨_, e2, rfl, _, rfl⟩ hs (by omega) X.prog X.w _ _ ⟨.bl _, H, I, rfl, q⟩
theorem op_eqE (hu : X.A.units + 64 < cLine) : OpR X (compareOp .Eq) (rEqE X.K) := by
  intro pins s σ H x y v u Q I rx ry h
  rcases h with h | h
  · exact op_eqD hu _ _ _ _ _ _ _ _ _ I rx ry h
  · exact op_lens hu _ _ _ _ _ _ _ _ _ I rx ry h
theorem op2_eqE {Φ : Ow → Cell → Prop} {c1 c2 : Cell} (h : ∃ ds, c1 = .dat (.list ds) ∧ c2 = .dat (.list []) ∧ Φ ω (.dat (.bool (decide (ds = []))))) : Op2 X (rEqE X.K) ω δ c1 c2 Φ := fun x y σ H Q s o1 o2 q => by
  obtain ⟨ds, e1, e2, f⟩ := h
  subst e1; subst e2
  cases ds with
  | nil =>
    exact Or.inl ⟨_, _, dp_of rfl (Rp.mono hid_same o1), dp_of rfl (Rp.mono hid_same o2), rfl, rfl, q ω _ _ H f s (Kp.refl _ _) (Rp.bl _)⟩
  | cons d ds =>
    obtain ⟨h1⟩ | ⟨⟩ := Rp.mono hid_same o1
    obtain ⟨h2⟩ | ⟨⟩ := Rp.mono hid_same o2
    rename_i r1 _ _ _ r2
    refine Or.inr ⟨_, _, _, _, rfl, rfl, by assumption, by assumption, ?_, q ω _ _ H f s (Kp.refl _ _) (Rp.bl _)⟩
    cases r1; cases r2
    simp
theorem n_eqE (hu : X.A.units + 64 < cLine) {Φ : Ow → Cell → Prop} (h : N X ω δ a fun ω1 c1 => N X ω1 δ b fun ω2 c2 => ∃ ds, c1 = .dat (.list ds) ∧ c2 = .dat (.list []) ∧ Φ ω2 (.dat (.bool (decide (ds = []))))) : N X ω δ (.Compare a [.Eq] [b] pos) Φ :=
  n_cop (op_eqE hu) (nomark _) (h.imp fun _ _ h1 => h1.imp fun _ _ h2 => op2_eqE h2)
/-- a, b = a tuple of two -/
theorem s_unp {E : En} {e : Expr} (i j : Nat) {x y : Str} {px py pt : Pos} {kt : Nat} (hc : X.calm = true) (hN : X.N.Nodup) (h : N X ω δ e fun ω1 c => ∃ d1 d2, c = .dat (.tuple [d1, d2]) ∧ E.nx ω1 ((δ.set i (some (.dat d1))).set j (some (.dat d2))))
    (hi : X.N[i]? = some x := by rfl) (hj : X.N[j]? = some y := by rfl) (hx : Loc X.env.scope x := by first | exact Or.inl rfl | exact Or.inr rfl) (hy : Loc X.env.scope y := by first | exact Or.inl rfl | exact Or.inr rfl)
    (hf : X.fn x = true ∨ X.env.scope.names.lookup x = some .local := by first | exact .inl rfl | exact .inr rfl | assumption) (hg : X.fn y = true ∨ X.env.scope.names.lookup y = some .local := by first | exact .inl rfl | exact .inr rfl | assumption)
    (hs : swapsWithSole [.Tuple [.Name x px, .Name y py] kt pt] e pos.line X.env = pure false := by rfl) (hw : swappedStores [.Tuple [.Name x px, .Name y py] kt pt] e X.env = pure none := by rfl)
    (h1 : (assignEach [.Tuple [.Name x px, .Name y py] kt pt] X.env).map (·.2) = [assign (.Tuple [.Name x px, .Name y py] kt pt) X.env] := by rfl)
    (h2 : (assignEach [.Name x px, .Name y py] X.env).map (·.2) = assign (.Name x px) X.env :: (assignEach [.Name y py] X.env).map (·.2) := by rfl) (h3 : (assignEach [.Name y py] X.env).map (·.2) = assign (.Name y py) X.env :: (assignEach [] X.env).map (·.2) := by rfl)
    (h4 : (assignEach [.Name x px, .Name y py] X.env).length = 2 := by rfl) (h5 : (assignEach [.Name x px, .Name y py] X.env).findIdx? (·.1) = none := by rfl) : S X ω δ (.Assign [.Tuple [.Name x px, .Name y py] kt pt] e pos) E := fun σ H D s f =>
  WS.of (ps_asg (WE.pe X e) (pg_tup hc (pgs_cons (pg_name hN hi hx hf) (pgs_cons (pg_name hN hj hy hg) pgs_nil h3) h2) h4 h5) hs hw h1) (h σ H _ s fun ω1 c v H1 ⟨d1, d2, e1, q⟩ s1 k1 o1 => by
    subst e1
    cases o1 with
    | tup sq ra =>
      cases ra with
      | cons r1 ra =>
        cases ra with
        | cons r2 ra =>
          cases ra
          have sq' : SqT X.K H1 _ _ := sq.imp (fun z => rd_hid z) id
          exact ⟨_, _, rfl, sq', rfl, _, _, rfl, _, _, rfl, rfl, f.nx ω1 _ _ H1 q ((s1.store i (c := .dat d1) r1).store j (c := .dat d2) r2) k1⟩)
end
end DL

namespace DL
open PySem PySem.Spec L2
section
variable {X : Cx} {ω : Ow} {δ : Env} {e a b c elt iter : Expr} {es : List Expr} {body : List Stmt} {E : En} {Φ : Ow → Cell → Prop} {pos p1 p2 p3 : Pos} {x : Str} {scope : Scope}
/-! ## while -/
theorem s_while (hp : PassesOwn (model X.prog X.w) X.A X.env X.xe) (I : Nat → Ow → Env → Prop) (h0 : ∃ m, I m ω δ)
    (h : ∀ m ω1 δ1, I m ω1 δ1 → NT X ω1 δ1 c fun ω2 b => if b = true then B X ω2 δ1 body { nx := fun ω' δ' => ∃ m', m' < m ∧ I m' ω' δ', ct := fun ω' δ' => ∃ m', m' < m ∧ I m' ω' δ', bk := E.nx, rt := E.rt } else E.nx ω2 δ1) : S X ω δ (.While c body [] pos) E := fun σ H D s f =>
  WS.of (ps_while hp (WT.pt X c) (WB.pss X body)) (by
    refine ⟨fun m σ' H' => ∃ ω' δ', I m ω' δ' ∧ StOk X.K ω' δ' σ' H' ∧ Kp (dom ω) H (dom ω') H', ?_, ?_⟩
    · obtain ⟨m, hm⟩ := h0
      exact ⟨m, ω, δ, hm, s, Kp.refl _ _⟩
    · rintro m σ1 H1 ⟨ω1, δ1, hI, s1, k1⟩
      refine h m ω1 δ1 hI σ1 H1 _ s1 fun ω2 b H2 q s2 k2 => ?_
      cases b with
      | true =>
        rw [if_pos rfl] at q ⊢
        refine ⟨fun σ' H' => ∃ ω' δ', (∃ m', m' < m ∧ I m' ω' δ') ∧ StOk X.K ω' δ' σ' H' ∧ Kp (dom ω) H (dom ω') H', ?_, ?_⟩
        · rintro σ' H' ⟨ω', δ', ⟨m', hl, hI'⟩, s', k'⟩
          exact ⟨m', hl, ω', δ', hI', s', k'⟩
        · have kk := k1.trans k2
          exact q σ1 H2 _ s2 ⟨fun ω' δ' σ' H' g s' k' => ⟨ω', δ', g, s', kk.trans k'⟩, fun ω' c v H' g s' k' o => f.rt ω' c v H' g s' (kk.trans k') o, fun ω' δ' σ' H' g s' k' => f.nx ω' δ' σ' H' g s' (kk.trans k'), fun ω' δ' σ' H' g s' k' => ⟨ω', δ', g, s', kk.trans k'⟩⟩
      | false =>
        rw [if_neg (by decide)] at q ⊢
        exact f.nx ω2 δ1 σ1 H2 q s2 (k1.trans k2))
/-! ## methods of owned lists -/
theorem n_popO (i n : Nat) {p : Addr} {ds : List PyData} {d : PyData} (hd : δ[i]? = some (some (.raw (.ref p)))) (hw : ω[n]? = some (p, lstP (ds ++ [d]))) (h : Φ (ω.set n (p, lstP ds)) (.dat d)) (hN : X.N[i]? = some x := by rfl)
    (hbase : attributeBase (.Name x p1) "pop" X.env (eval (.Name x p1) X.env) = eval (.Name x p1) X.env := by rfl) (hline : (p2.endLine == p3.line) = true := by rfl)
    (hv : Vis X.env.scope x := by first | exact Or.inl rfl | exact Or.inr (Or.inl rfl) | exact Or.inr (Or.inr rfl)) (hg : (x == ("__debug__" : Str)) = false := by decide) (hcd : (x == ("__classdict__" : Str)) = false := by decide) :
    N X ω δ (.Call (.Attribute (.Name x p1) "pop" p2) [] [] p3) Φ :=
  n_lift (pe_bm0 PySem.F.plainAttrs_list PySem.F.slot_list_pop PySem.F.type_list_pop mt_pop (pe_var hN hv hg hcd) hbase hline) fun σ H Q s q => by
    obtain ⟨v, g1, g2⟩ := s.get hd
    cases g2
    obtain ⟨u, m1, vs, rfl, m2⟩ := s.own.at_ p _ (List.mem_of_getElem? hw)
    have hl : vs.length = ds.length + 1 := by rw [m2.len, List.length_append]; rfl
    obtain ⟨y, hy, ry⟩ := m2.get (i := ds.length) (d := d) (by rw [List.getElem?_append_right (Nat.le_refl _), Nat.sub_self]; rfl)
    have r2 : RpA X.K (hid (dom ω) H) vs.dropLast ds := by
      have r3 := m2.take ds.length
      rw [List.take_left] at r3
      rw [List.dropLast_eq_take, hl]
      exact r3
    have kk : Kp (dom ω) H (dom (ω.set n (p, lstP ds))) (upd H p (.lst vs.dropLast)) := by rw [dom_set hw]; exact kp_upd (mem_dom hw)
    refine ⟨_, g1, .inl ⟨rfl, _, SqL.of m1⟩, p, vs, y, rfl, rfl, m1, by rw [hl]; exact hy, q _ _ y _ h (s.put hw ⟨_, rfl, r2⟩) kk (Rp.mono kk ry)⟩
/-- o.extend(e), o an owned list, e a list that is a datum -/
theorem s_extendO (i n : Nat) {p : Addr} (hd : δ[i]? = some (some (.raw (.ref p)))) (hw0 : ∃ ds, ω[n]? = some (p, lstP ds)) (h : N X ω δ e fun ω1 c1 => ∃ ds fs, ω1[n]? = some (p, lstP ds) ∧ c1 = .dat (.list fs) ∧ ds.length + fs.length < 1000000 ∧ E.nx (ω1.set n (p, lstP (ds ++ fs))) δ) (hN : X.N[i]? = some x := by rfl)
    (hs : swapsWith (.Call (.Attribute (.Name x p1) "extend" p2) [e] [] p3) none pos.line X.env = pure false := by rfl)
    (hbase : attributeBase (.Name x p1) "extend" X.env (eval (.Name x p1) X.env) = eval (.Name x p1) X.env := by rfl)
    (hfew : ((backTo p3 (starEach [e] X.env)).all (fun x => !x.1) && (backToKw p3 (keywordEach [] X.env)).all (fun x => x.1.isSome)
      && decide ([e].length + ([] : List Keyword).length + (if ([] : List Keyword).isEmpty then 0 else 1) < 30)) = true := by rfl)
    (hline : (p2.endLine == p3.line) = true := by rfl) (hst : starEach [e] X.env = (false, eval e X.env) :: starEach [] X.env := by rfl) (hplain : (backTo p3 (starEach [] X.env)).any (·.1) = false := by rfl)
    (hv : Vis X.env.scope x := by first | exact Or.inl rfl | exact Or.inr (Or.inl rfl) | exact Or.inr (Or.inr rfl)) (hg : (x == ("__debug__" : Str)) = false := by decide) (hcd : (x == ("__classdict__" : Str)) = false := by decide) :
    S X ω δ (.Expr (.Call (.Attribute (.Name x p1) "extend" p2) [e] [] p3) pos) E := fun σ H D s f =>
  WS.of (ps_expr (pe_bm PySem.F.plainAttrs_list PySem.F.slot_list_extend PySem.F.type_list_extend mt_extend (pe_var hN hv hg hcd) (pa_cons (WE.pe X e) pa_nil hst) hbase hfew hline hst hplain) hs) (by
    obtain ⟨v, g1, g2⟩ := s.get hd
    cases g2
    obtain ⟨ds0, hw0⟩ := hw0
    obtain ⟨u0, a1, vs0, rfl, a2⟩ := s.own.at_ p _ (List.mem_of_getElem? hw0)
    refine ⟨_, g1, .inl ⟨rfl, _, SqL.of a1⟩, h σ H _ s fun ω1 c1 v1 H1 ⟨ds, fs, hw, e1, hz, q⟩ s1 k1 o1 => ?_⟩
    subst e1
    obtain ⟨u, m1, vs, rfl, m2⟩ := s1.own.at_ p _ (List.mem_of_getElem? hw)
    cases o1 with
    | @lst l xs _ hl hr =>
      refine ⟨p, l, vs, xs, rfl, rfl, m1, (hid_some hl).2, by rw [m2.len, hr.len]; exact Nat.le_trans (Nat.le_of_lt hz) (by decide), ?_⟩
      exact f.nx _ _ _ _ q (s1.put hw ⟨_, rfl, m2.append hr⟩) (by rw [dom_set hw]; exact k1.trans (kp_upd (mem_dom hw))))
/-- o.insert(k, e), o an owned list, k from 0 on -/
theorem s_insertO (i n : Nat) {p : Addr} (hd : δ[i]? = some (some (.raw (.ref p)))) (hw0 : ∃ ds, ω[n]? = some (p, lstP ds)) (h : N X ω δ a fun ω1 c1 => N X ω1 δ e fun ω2 c2 => ∃ ds k d, ω2[n]? = some (p, lstP ds) ∧ c1 = .dat (.int k) ∧ c2 = .dat d ∧ 0 ≤ k ∧ k < 1000000 ∧ ds.length < 100000 ∧ E.nx (ω2.set n (p, lstP (ds.take k.toNat ++ [d] ++ ds.drop k.toNat))) δ) (hN : X.N[i]? = some x := by rfl)
    (hs : swapsWith (.Call (.Attribute (.Name x p1) "insert" p2) [a, e] [] p3) none pos.line X.env = pure false := by rfl)
    (hbase : attributeBase (.Name x p1) "insert" X.env (eval (.Name x p1) X.env) = eval (.Name x p1) X.env := by rfl)
    (hfew : ((backTo p3 (starEach [a, e] X.env)).all (fun x => !x.1) && (backToKw p3 (keywordEach [] X.env)).all (fun x => x.1.isSome)
      && decide ([a, e].length + ([] : List Keyword).length + (if ([] : List Keyword).isEmpty then 0 else 1) < 30)) = true := by rfl)
    (hline : (p2.endLine == p3.line) = true := by rfl) (hst : starEach [a, e] X.env = (false, eval a X.env) :: starEach [e] X.env := by rfl) (hst2 : starEach [e] X.env = (false, eval e X.env) :: starEach [] X.env := by rfl) (hplain : (backTo p3 (starEach [e] X.env)).any (·.1) = false := by rfl)
    (hv : Vis X.env.scope x := by first | exact Or.inl rfl | exact Or.inr (Or.inl rfl) | exact Or.inr (Or.inr rfl)) (hg : (x == ("__debug__" : Str)) = false := by decide) (hcd : (x == ("__classdict__" : Str)) = false := by decide) :
    S X ω δ (.Expr (.Call (.Attribute (.Name x p1) "insert" p2) [a, e] [] p3) pos) E := fun σ H D s f =>
  WS.of (ps_expr (pe_bm PySem.F.plainAttrs_list PySem.F.slot_list_insert PySem.F.type_list_insert mt_insert (pe_var hN hv hg hcd) (pa_cons (WE.pe X a) (pa_cons (WE.pe X e) pa_nil hst2) hst) hbase hfew hline hst hplain) hs) (by
    obtain ⟨v, g1, g2⟩ := s.get hd
    cases g2
    obtain ⟨ds0, hw0⟩ := hw0
    obtain ⟨u0, a1, vs0, rfl, a2⟩ := s.own.at_ p _ (List.mem_of_getElem? hw0)
    refine ⟨_, g1, .inl ⟨rfl, _, SqL.of a1⟩, h σ H _ s fun ω1 c1 v1 H1 h1 s1 k1 o1 => h1 σ H1 _ s1 fun ω2 c2 v2 H2 ⟨ds, k, d, hw, e1, e2, z0, z1, hz, q⟩ s2 k2 o2 => ?_⟩
    subst e1; subst e2
    cases int_of o1
    obtain ⟨u, m1, vs, rfl, m2⟩ := s2.own.at_ p _ (List.mem_of_getElem? hw)
    refine ⟨p, vs, k, v2, rfl, rfl, m1, by rw [m2.len]; exact Nat.lt_of_lt_of_le hz (by decide), z0, by omega, ?_⟩
    exact f.nx _ _ _ _ q (s2.put hw ⟨_, rfl, ((m2.take k.toNat).append (.cons o2 .nil)).append (m2.drop k.toNat)⟩) (by rw [dom_set hw]; exact (k1.trans k2).trans (kp_upd (mem_dom hw))))
/-- o[k] -= e, ints, o an owned list -/
theorem s_subO (i n : Nat) {p : Addr} (hd : δ[i]? = some (some (.raw (.ref p)))) (h : N X ω δ b fun ω1 c1 => ∃ ds k m, ω1[n]? = some (p, lstP ds) ∧ c1 = .dat (.int k) ∧ 0 ≤ k ∧ k < 1000000 ∧ ds[k.toNat]? = some (.int m) ∧
      N X ω1 δ e fun ω2 c2 => ∃ l, ω2[n]? = some (p, lstP ds) ∧ c2 = .dat (.int l) ∧ E.nx (ω2.set n (p, lstP (ds.set k.toNat (.int (m - l))))) δ) (hN : X.N[i]? = some x := by rfl)
    (ha : ∀ ov iv new, augStore b ov iv new = (do holding [new, ov, iv] (setItem ov iv new); release [new, ov, iv] []; pure .next) := by intros; rfl)
    (hv : Vis X.env.scope x := by first | exact Or.inl rfl | exact Or.inr (Or.inl rfl) | exact Or.inr (Or.inr rfl)) (hg : (x == ("__debug__" : Str)) = false := by decide) (hcd : (x == ("__classdict__" : Str)) = false := by decide) : S X ω δ (.AugAssign (.Subscript (.Name x p1) b p2) .Sub e pos) E := fun σ H D s f =>
  WS.of (ps_augS (pe_var hN hv hg hcd) (WE.pe X b) get_lst (WE.pe X e) ip_sub set_list ha) (by
    obtain ⟨v, g1, g2⟩ := s.get hd
    cases g2
    refine ⟨_, g1, h σ H _ s fun ω1 c1 v1 H1 ⟨ds, k, m, hw, e1, h0, h1, hk, f1⟩ s1 k1 o1 => ?_⟩
    subst e1
    cases int_of o1
    obtain ⟨u, m1, vs, rfl, m2⟩ := s1.own.at_ p _ (List.mem_of_getElem? hw)
    obtain ⟨w, m3, m4⟩ := m2.get hk
    cases m4
    refine ⟨p, vs, k, _, rfl, rfl, SqL.of m1, h0, by omega, m3, f1 σ H1 _ s1 fun ω2 c2 v2 H2 ⟨l, hw2, e2, q⟩ s2 k2 o2 => ?_⟩
    subst e2
    cases int_of o2
    obtain ⟨u2, n1, vs2, rfl, n2⟩ := s2.own.at_ p _ (List.mem_of_getElem? hw2)
    have hlt : k.toNat < vs2.length := by rw [n2.len]; exact (List.getElem?_eq_some_iff.mp hk).1
    refine ⟨m, l, rfl, rfl, p, vs2, k, k.toNat, rfl, rfl, n1, ?_, ?_⟩
    · unfold ixN
      rw [if_pos h0, if_pos (by omega)]
    · exact f.nx _ _ _ _ q (s2.put hw2 ⟨_, rfl, n2.set (Rp.int _) k.toNat⟩) (by rw [dom_set hw2]; exact (k1.trans k2).trans (kp_upd (mem_dom hw2))))
/-! ## all, any, max -/
theorem RpA.bls {K : PySem.W.Frag} {H : Hp} : ∀ {vs : List V} {bs : List Bool}, RpA K H vs (bs.map .bool) → vs = bs.map V.bl
  | [], [], _ => rfl
  | _ :: _, _ :: _, .cons h r => by cases h; rw [RpA.bls r]; rfl
theorem RpA.is {K : PySem.W.Frag} {H : Hp} : ∀ {vs : List V} {bs : List Int}, RpA K H vs (bs.map .int) → vs = bs.map V.int
  | [], [], _ => rfl
  | _ :: _, _ :: _, .cons h r => by cases h; rw [RpA.is r]; rfl
theorem n_all (hc : X.calm = true) (hm : X.mg "all" = none) (h : N X ω δ a fun ω1 c => ∃ bs : List Bool, c = .dat (.list (bs.map .bool)) ∧ Φ ω1 (.dat (.bool (bs.all id)))) (hg : Gl X "all" := by rfl) (he : starEach [a] X.env = (false, eval a X.env) :: starEach [] X.env := by rfl) : N X ω δ (.Call (.Name "all" p1) [a] [] pos) Φ :=
  n_callB (cr_all hc) hm (na_cons (h.imp fun ω1 c ⟨bs, e1, f⟩ => na_nil fun vs σ H Q s o q => by
    subst e1
    obtain ⟨v, rfl, ov⟩ := cells1 o
    cases ov with
    | lst hl r =>
      cases r.bls
      exact ⟨_, bs, rfl, SqL.of (hid_some hl).2, q ω1 _ _ H f s (Kp.refl _ _) (Rp.bl _)⟩) he) hg (he := he)
theorem n_any (hc : X.calm = true) (hm : X.mg "any" = none) (h : N X ω δ a fun ω1 c => ∃ bs : List Bool, c = .dat (.list (bs.map .bool)) ∧ Φ ω1 (.dat (.bool (bs.any id)))) (hg : Gl X "any" := by rfl) (he : starEach [a] X.env = (false, eval a X.env) :: starEach [] X.env := by rfl) : N X ω δ (.Call (.Name "any" p1) [a] [] pos) Φ :=
  n_callB (cr_any hc) hm (na_cons (h.imp fun ω1 c ⟨bs, e1, f⟩ => na_nil fun vs σ H Q s o q => by
    subst e1
    obtain ⟨v, rfl, ov⟩ := cells1 o
    cases ov with
    | lst hl r =>
      cases r.bls
      exact ⟨_, bs, rfl, SqL.of (hid_some hl).2, q ω1 _ _ H f s (Kp.refl _ _) (Rp.bl _)⟩) he) hg (he := he)
theorem n_max (hc : X.calm = true) (hm : X.mg "max" = none) (h : N X ω δ a fun ω1 c => ∃ ns : List Int, c = .dat (.list (ns.map .int)) ∧ 0 < ns.length ∧ ∀ m, m ∈ ns → (∀ y, y ∈ ns → y ≤ m) → Φ ω1 (.dat (.int m))) (hg : Gl X "max" := by rfl) (he : starEach [a] X.env = (false, eval a X.env) :: starEach [] X.env := by rfl) : N X ω δ (.Call (.Name "max" p1) [a] [] pos) Φ :=
  n_callB (cr_max hc) hm (na_cons (h.imp fun ω1 c ⟨ns, e1, hl0, f⟩ => na_nil fun vs σ H Q s o q => by
    subst e1
    obtain ⟨v, rfl, ov⟩ := cells1 o
    cases ov with
    | lst hl r =>
      cases r.is
      exact ⟨_, ns, rfl, SqL.of (hid_some hl).2, hl0, fun m h1 h2 => q ω1 _ _ H (f m h1 h2) s (Kp.refl _ _) (Rp.int _)⟩) he) hg (he := he)
/-! ## what is owned becomes data at once -/
theorem n_shareE (h : N X ω δ e fun ω1 c => ∃ p ds ω2, ω1 = (p, lstP ds) :: ω2 ∧ c = .raw (.ref p) ∧ Φ ω2 (.dat (.list ds))) : N X ω δ e Φ := fun σ H Q s q =>
  h σ H Q s fun ω1 c v H' ⟨p, ds, ω2, e1, e2, f⟩ s1 k1 o1 => by
    subst e1; subst e2
    cases o1
    exact q ω2 _ _ H' f s1.drop (k1.trans (kp_drop (P := lstP ds))) (own_lst s1.own)
/-! ## x in a list of data without dicts; != of lists -/
theorem op2_inD {c1 c2 : Cell} (h : ∃ d ds, c1 = .dat d ∧ c2 = .dat (.list ds) ∧ SeqAt.shaped d = true ∧ SeqAt.shaped (.list ds) = true ∧ Φ ω (.dat (.bool (ds.any fun z => PyData.eqv z d)))) : Op2 X (rInD X.K) ω δ c1 c2 Φ := fun x y σ H Q s o1 o2 q => by
  obtain ⟨d1, d2, e1, e2, h1, h2, f⟩ := h
  subst e1; subst e2
  exact ⟨d1, d2, dp_of (SeqAt.canLay_of_shaped h1) (Rp.mono hid_same o1), dp_of (SeqAt.canLay_of_shaped h2) (Rp.mono hid_same o2), h1, h2, q ω _ _ H f s (Kp.refl _ _) (Rp.bl _)⟩
theorem n_inD (hu : X.A.units + 65 < cLine) (hm : behindInMarks .In b = false) (h : N X ω δ a fun ω1 c1 => N X ω1 δ b fun ω2 c2 => ∃ d ds, c1 = .dat d ∧ c2 = .dat (.list ds) ∧ SeqAt.shaped d = true ∧ SeqAt.shaped (.list ds) = true ∧ Φ ω2 (.dat (.bool (ds.any fun z => PyData.eqv z d)))) : N X ω δ (.Compare a [.In] [b] pos) Φ :=
  n_cop (op_inD hu) hm (h.imp fun _ _ h1 => h1.imp fun _ _ h2 => op2_inD h2)
theorem nt_inD {Ψ : Ow → Bool → Prop} (hu : X.A.units + 65 < cLine) (hm : behindInMarks .In b = false) (h : N X ω δ a fun ω1 c1 => N X ω1 δ b fun ω2 c2 => ∃ d ds, c1 = .dat d ∧ c2 = .dat (.list ds) ∧ SeqAt.shaped d = true ∧ SeqAt.shaped (.list ds) = true ∧ Ψ ω2 (ds.any fun z => PyData.eqv z d)) : NT X ω δ (.Compare a [.In] [b] pos) Ψ :=
  nt_cop (op_inD hu) hm (h.imp fun _ _ h1 => h1.imp fun _ _ ⟨d, ds, e1, e2, h2, h3, f⟩ => op2_inD ⟨d, ds, e1, e2, h2, h3, isB.mk f⟩)
theorem op2_nin {c1 c2 : Cell} (h : ∃ d ds, c1 = .dat d ∧ (c2 = .dat (.tuple ds) ∨ c2 = .dat (.list ds)) ∧ flatD d = true ∧ ds.all flatD = true ∧ Φ ω (.dat (.bool (!inD d ds)))) : Op2 X (rIn X.K true) ω δ c1 c2 Φ := fun x y σ H Q s o1 o2 q => by
  obtain ⟨d, ds, e1, e2, h1, h2, f⟩ := h
  subst e1
  obtain ⟨g1, g2⟩ := flat_val o1 h1
  rcases e2 with rfl | rfl
  · cases o2 with
    | tup hl r =>
      obtain ⟨g3, g4⟩ := flat_vals r h2
      refine ⟨_, _, rfl, .inr (sqt_hid hl), g2, g4, ?_⟩
      rw [g1, g3]
      exact q ω _ _ H f s (Kp.refl _ _) (Rp.bl _)
  · cases o2 with
    | lst hl r =>
      obtain ⟨g3, g4⟩ := flat_vals r h2
      refine ⟨_, _, rfl, .inl (SqL.of (hid_some hl).2), g2, g4, ?_⟩
      rw [g1, g3]
      exact q ω _ _ H f s (Kp.refl _ _) (Rp.bl _)
theorem nt_nin {Ψ : Ow → Bool → Prop} (hm : behindInMarks .NotIn b = false) (h : N X ω δ a fun ω1 c1 => N X ω1 δ b fun ω2 c2 => ∃ d ds, c1 = .dat d ∧ (c2 = .dat (.tuple ds) ∨ c2 = .dat (.list ds)) ∧ flatD d = true ∧ ds.all flatD = true ∧ Ψ ω2 (!inD d ds)) : NT X ω δ (.Compare a [.NotIn] [b] pos) Ψ :=
  nt_cop op_notIn_seq hm (h.imp fun _ _ h1 => h1.imp fun _ _ ⟨d, ds, e1, e2, h2, h3, f⟩ => op2_nin ⟨d, ds, e1, e2, h2, h3, isB.mk f⟩)
def rLensN : R2 := fun x y H Q => ∃ a b xs ys, x = .ref a ∧ y = .ref b ∧ H a = some (.lst xs) ∧ H b = some (.lst ys) ∧ xs.length ≠ ys.length ∧ Q (.bl true) H
def rNeE (K : PySem.W.Frag) : R2 := fun x y H Q => rNeD K x y H Q ∨ rLensN x y H Q
theorem op_lensN (hu : X.A.units + 64 < cLine) : OpR X (compareOp .NotEq) rLensN := by
  intro pins s σ H x y v u Q I rx ry h
  obtain ⟨a, b, xs, ys, rfl, rfl, ea, eb, hl, q⟩ := h
  cases rx
  cases ry
  obtain ⟨z, its, k, r, e⟩ := I.hok a _ ea
  obtain ⟨z2, its2, k2, r2, e2⟩ := I.hok b _ eb
  have hs : (its.toArray.size != its2.toArray.size) = true := by
    rw [List.size_toArray, List.size_toArray, ← r.length, ← r2.length]; simpa using hl
  exact SeqAt.RcNeAt.lists_lengths (A := X.A) ⟨_, e, rfl, _, rfl⟩ ⟨_, e2, rfl, _, rfl⟩ hs (by omega) X.prog X.w _ _ ⟨.bl _, H, I, rfl, q⟩
theorem op_neE (hu : X.A.units + 64 < cLine) : OpR X (compareOp .NotEq) (rNeE X.K) := by
  intro pins s σ H x y v u Q I rx ry h
  rcases h with h | h
  · exact op_neD hu _ _ _ _ _ _ _ _ _ I rx ry h
  · exact op_lensN hu _ _ _ _ _ _ _ _ _ I rx ry h
theorem op2_neE {c1 c2 : Cell} (h : ∃ ds, c1 = .dat (.list ds) ∧ c2 = .dat (.list []) ∧ Φ ω (.dat (.bool (decide (ds ≠ []))))) : Op2 X (rNeE X.K) ω δ c1 c2 Φ := fun x y σ H Q s o1 o2 q => by
  obtain ⟨ds, e1, e2, f⟩ := h
  subst e1; subst e2
  cases ds with
  | nil =>
    exact Or.inl ⟨_, _, dp_of rfl (Rp.mono hid_same o1), dp_of rfl (Rp.mono hid_same o2), rfl, rfl, q ω _ _ H f s (Kp.refl _ _) (Rp.bl _)⟩
  | cons d ds =>
    obtain ⟨h1⟩ | ⟨⟩ := Rp.mono hid_same o1
    obtain ⟨h2⟩ | ⟨⟩ := Rp.mono hid_same o2
    rename_i r1 _ _ _ r2
    refine Or.inr ⟨_, _, _, _, rfl, rfl, by assumption, by assumption, ?_, q ω _ _ H f s (Kp.refl _ _) (Rp.bl _)⟩
    cases r1; cases r2
    simp
theorem nt_neE (hu : X.A.units + 64 < cLine) {Ψ : Ow → Bool → Prop} (h : N X ω δ a fun ω1 c1 => N X ω1 δ b fun ω2 c2 => ∃ ds, c1 = .dat (.list ds) ∧ c2 = .dat (.list []) ∧ Ψ ω2 (decide (ds ≠ []))) : NT X ω δ (.Compare a [.NotEq] [b] pos) Ψ :=
  nt_cop (op_neE hu) (nomark _) (h.imp fun _ _ h1 => h1.imp fun _ _ ⟨ds, e1, e2, f⟩ => op2_neE ⟨ds, e1, e2, isB.mk f⟩)
/-- an owned list != [] -/
theorem nt_neEO (i n : Nat) {p : Addr} {ds : List PyData} {pl : Pos} {Ψ : Ow → Bool → Prop} (hu : X.A.units + 64 < cLine) (hd : δ[i]? = some (some (.raw (.ref p)))) (hw : ω[n]? = some (p, lstP ds)) (h : Ψ ω (decide (ds ≠ []))) (hN : X.N[i]? = some x := by rfl)
    (hv : Vis X.env.scope x := by first | exact Or.inl rfl | exact Or.inr (Or.inl rfl) | exact Or.inr (Or.inr rfl)) (hg : (x == ("__debug__" : Str)) = false := by decide) (hcd : (x == ("__classdict__" : Str)) = false := by decide) : NT X ω δ (.Compare (.Name x p1) [.NotEq] [.List [] pl] pos) Ψ :=
  nt_cop (op_neE hu) (nomark _) (n_var i (by
    refine n_lst (na_nil ⟨[], rfl, by decide, ?_⟩)
    intro v y σ H Q s o1 o2 q
    cases o1
    obtain ⟨u, m1, vs, rfl, m2⟩ := s.own.at_ p _ (List.mem_of_getElem? hw)
    cases Rp.mono hid_same o2 with
    | lst hl hr =>
      cases hr
      cases ds with
      | nil =>
        cases m2
        exact Or.inl ⟨_, _, Dp.lst (SqL.of m1) .nil, Dp.lst (SqL.of hl) .nil, rfl, rfl, q ω (.dat (.bool false)) _ H (isB.mk h) s (Kp.refl _ _) (Rp.bl _)⟩
      | cons d ds =>
        refine Or.inr ⟨_, _, _, _, rfl, rfl, m1, hl, ?_, q ω (.dat (.bool true)) _ H (isB.mk (by simpa using h)) s (Kp.refl _ _) (Rp.bl _)⟩
        rw [m2.len]
        simp) hd hN hv hg hcd)
/-! ## [x for y in .. for x in ..] -/
theorem wipe2 {σ : St} {j j1 : Nat} {v : Option V} (h : j ≠ j1) : ((((σ.set j1 none).set j none).set j v).set j1 none).set j none = (σ.set j1 none).set j none := by
  apply List.ext_getElem?
  intro k
  simp only [List.getElem?_set, List.length_set]
  by_cases h1 : j = k
  · simp [h1]
  · by_cases h2 : j1 = k
    · subst h2
      by_cases h3 : j1 < σ.length <;> simp [h1, h3]
    · simp [h1, h2]
theorem t_lc2 (j j1 : Nat) {iter1 : Expr} (hjj : j ≠ j1) (hlen : j1 < δ.length)
    (h : N X ω δ iter fun ω1 c => ∃ ds, c = .dat (.list ds) ∧ ∃ J : Nat → Ow → List PyData → Prop, J 0 ω1 [] ∧
      (∀ i ω2 acc D d0, ds[i]? = some d0 → J i ω2 acc → BlkF X scope fun Y => N Y ((D, lstP acc) :: ω2) (((δ.set j1 none).set j none).set j (some (.dat d0))) iter1 fun ω3 c => ∃ fs ω4, c = .dat (.list fs) ∧ ω3 = (D, lstP acc) :: ω4 ∧ acc.length + fs.length ≤ 100000 ∧ J (i + 1) ω4 (acc ++ fs)) ∧
      ∀ ω2 acc, J ds.length ω2 acc → ∀ D, Φ ((D, lstP acc) :: ω2) (.raw (.ref D)))
    (hel : BlkF X scope fun Y => ∀ ω' δ' c, δ'[j1]? = some (some c) → N Y ω' δ' elt fun ω3 c3 => ω3 = ω' ∧ c3 = c)
    {σ : St} {H : Hp} {Q : VK} (s : StOk X.K ω δ σ H) (q : ∀ ω' c v H', Φ ω' c → StOk X.K ω' δ σ H' → Kp (dom ω) H (dom ω') H' → CellOk X.K (dom ω') H' v c → Q v H') :
    tLc2 (iList X.K (WE X iter)) (gName j) tYes (fun σ H R => BlkF X scope fun Y => iList X.K (WE Y iter1) σ H R) (gName j1) tYes (fun σ H Q => BlkF X scope fun Y => WE Y elt σ H Q) [j, j1] [j1] σ H Q :=
  h σ H _ s fun ω1 c v H1 ⟨ds, e1, J, j0, jt, je⟩ s1 k1 o1 => by
    subst e1
    cases o1 with
    | @lst l xs _ hl hr =>
      refine ⟨l, rfl, ⟨xs, SqL.of (hid_some hl).2⟩, fun D hD => ?_⟩
      have hD0 : (lstP []).ok X.K (hid (dom ω1) H1) (.lst []) := ⟨[], rfl, .nil⟩
      refine ⟨fun i m H' => m = xs.length - i ∧ i ≤ xs.length ∧ ∃ ω2 acc, J i ω2 acc ∧ StOk X.K ((D, lstP acc) :: ω2) δ σ H' ∧ Kp (dom ω1) H1 (D :: dom ω2) H', ⟨xs.length, by simp, Nat.zero_le _, ω1, [], j0, s1.cons hD hD0, (s1.own.cons hD hD0).2⟩, ?_⟩
      rintro i m H' ⟨rfl, hi, ω2, acc, hJ, s2, k2⟩
      have hsq : SqL X.K H' l xs := SqL.of (hid_some (k2 _ _ hl)).2
      by_cases hlt : i < xs.length
      rotate_left
      · have e : i = xs.length := by omega
        subst e
        refine .inl ⟨⟨xs, hsq, Nat.le_refl _⟩, ?_⟩
        rw [hr.len] at hJ
        exact q _ _ _ H' (je ω2 acc hJ D) s2 (k1.trans k2) rfl
      refine .inr ⟨⟨xs, xs[i], hsq, by simp [hlt]⟩, fun H' => ∃ ω2 acc, J (i + 1) ω2 acc ∧ StOk X.K ((D, lstP acc) :: ω2) δ σ H' ∧ Kp (dom ω1) H1 (D :: dom ω2) H', fun H3 g => ⟨xs.length - (i + 1), by omega, rfl, hlt, g⟩, fun y H3 yl => ?_⟩
      obtain ⟨rfl, yl⟩ := yl
      have hy := yl xs hsq
      obtain ⟨d0, hd0, rd0⟩ := hr.get' hy
      refine ⟨wipe2 hjj, ?_⟩
      unfold tYes
      simp only [↓reduceIte]
      intro s3 H9 C cl fp
      have sB : StOk X.K ((D, lstP acc) :: ω2) (((δ.set j1 none).set j none).set j (some (.dat d0))) ((wipe σ [j, j1]).set j (some y)) H3 := ⟨((s2.env.wipe j1).wipe j).set (c := .dat d0) (rd0.mono k2) j, s2.own⟩
      refine jt i ω2 acc D d0 hd0 hJ s3 H9 C cl fp _ _ _ sB fun ω3 c v H4 ⟨fs, ω4, e1, e2, hz, hJ'⟩ s4 k4 o4 => ?_
      subst e1; subst e2
      cases o4 with
      | @lst l2 ys _ hl2 hr2 =>
        refine ⟨l2, rfl, ⟨ys, SqL.of (hid_some hl2).2⟩, ?_⟩
        refine ⟨fun i2 m2 H5 => m2 = ys.length - i2 ∧ i2 ≤ ys.length ∧ StOk X.K ((D, lstP (acc ++ fs.take i2)) :: ω4) (((δ.set j1 none).set j none).set j (some (.dat d0))) ((wipe σ [j, j1]).set j (some y)) H5 ∧ Kp (D :: dom ω4) H4 (D :: dom ω4) H5, ⟨ys.length, by simp, Nat.zero_le _, by simpa using s4, Kp.refl _ _⟩, ?_⟩
        rintro i2 m2 H5 ⟨rfl, hi2, s5, k5⟩
        have hsq2 : SqL X.K H5 l2 ys := SqL.of (hid_some (k5 _ _ hl2)).2
        by_cases hlt2 : i2 < ys.length
        rotate_left
        · have e : i2 = ys.length := by omega
          subst e
          refine .inl ⟨⟨ys, hsq2, Nat.le_refl _⟩, ω4, acc ++ fs, hJ', ?_, (k2.trans k4).trans k5⟩
          have own5 := s5.own
          rw [hr2.len, List.take_length] at own5
          exact ⟨s2.env.mono (k4.trans k5), own5⟩
        refine .inr ⟨⟨ys, ys[i2], hsq2, by simp [hlt2]⟩, fun H5 => StOk X.K ((D, lstP (acc ++ fs.take (i2 + 1))) :: ω4) (((δ.set j1 none).set j none).set j (some (.dat d0))) ((wipe σ [j, j1]).set j (some y)) H5 ∧ Kp (D :: dom ω4) H4 (D :: dom ω4) H5, fun H6 g => ⟨ys.length - (i2 + 1), by omega, rfl, hlt2, g⟩, fun y2 H6 yl2 => ?_⟩
        obtain ⟨rfl, yl2⟩ := yl2
        have hy2 := yl2 ys hsq2
        obtain ⟨e0, he0, re0⟩ := hr2.get' hy2
        refine ⟨set_wipe, ?_⟩
        simp only [↓reduceIte]
        intro s7 H7 C7 cl7 fp7
        have sC : StOk X.K ((D, lstP (acc ++ fs.take i2)) :: ω4) (((((δ.set j1 none).set j none).set j (some (.dat d0))).set j1 none).set j1 (some (.dat e0))) ((((wipe σ [j, j1]).set j (some y)).set j1 none).set j1 (some y2)) H6 := ⟨(s5.env.wipe j1).set (c := .dat e0) (re0.mono k5) j1, s5.own⟩
        refine hel s7 H7 C7 cl7 fp7 _ _ (.dat e0) (by rw [List.getElem?_set_self (by simpa using hlen)]) _ _ _ sC fun ω8 c8 v8 H8 ⟨e1, e2⟩ s8 k8 o8 => ?_
        subst e1; subst e2
        obtain ⟨u, m1, vs, rfl, m2⟩ := s8.own.at_ D _ List.mem_cons_self
        have et : acc ++ fs.take (i2 + 1) = (acc ++ fs.take i2) ++ [e0] := by
          rw [List.take_add_one, he0]; simp
        have ho : (lstP (acc ++ fs.take (i2 + 1))).ok X.K (hid (dom ((D, lstP (acc ++ fs.take i2)) :: ω4)) H8) (.lst (vs ++ [v8])) := by
          rw [et]
          exact ⟨_, rfl, m2.append (.cons o8 .nil)⟩
        have oo := s8.own.put (i := 0) (p := D) (P := lstP (acc ++ fs.take i2)) rfl ho
        have kk : Kp (D :: dom ω4) H6 (D :: dom ω4) (upd H8 D (.lst (vs ++ [v8]))) := Kp.trans k8 (kp_upd List.mem_cons_self)
        refine ⟨vs, m1, ?_, ⟨s5.env.mono kk, oo⟩, k5.trans kk⟩
        rw [m2.len, List.length_append, List.length_take]
        exact Nat.lt_of_le_of_lt (m := 100000) (by omega) (by decide)
theorem n_lc2 (j j1 : Nat) {iter1 : Expr} {x1 : Str} {q1 : Pos} (hjj : j ≠ j1) (hlen : j1 < δ.length) (hc : X.calm = true) (hn : X.N.Nodup) (hb : BlkOk X.N X.env.scope scope [(x, j), (x1, j1)])
    (h : N X ω δ iter fun ω1 c => ∃ ds, c = .dat (.list ds) ∧ ∃ J : Nat → Ow → List PyData → Prop, J 0 ω1 [] ∧
      (∀ i ω2 acc D d0, ds[i]? = some d0 → J i ω2 acc → BlkF X scope fun Y => N Y ((D, lstP acc) :: ω2) (((δ.set j1 none).set j none).set j (some (.dat d0))) iter1 fun ω3 c => ∃ fs ω4, c = .dat (.list fs) ∧ ω3 = (D, lstP acc) :: ω4 ∧ acc.length + fs.length ≤ 100000 ∧ J (i + 1) ω4 (acc ++ fs)) ∧
      ∀ ω2 acc, J ds.length ω2 acc → ∀ D, Φ ((D, lstP acc) :: ω2) (.raw (.ref D)))
    (hel : BlkF X scope fun Y => ∀ ω' δ' c, δ'[j1]? = some (some c) → N Y ω' δ' elt fun ω3 c3 => ω3 = ω' ∧ c3 = c)
    (hgt : BlkF X scope fun Y => PG Y (.Name x p1) (gName j)) (hgt1 : BlkF X scope fun Y => PG Y (.Name x1 q1) (gName j1))
    (hs : ∀ y, foldedSetIterable iter X.env y = pure y := by intro _; rfl) (hs1 : ∀ env y, foldedSetIterable iter1 env y = pure y := by intro _ _; rfl) :
    N X ω δ (.ListComp elt [{ target := .Name x p1, iter := iter, ifs := [], is_async := 0 }, { target := .Name x1 q1, iter := iter1, ifs := [], is_async := 0 }] scope pos) Φ :=
  n_lift (pe_lc2 (own := [(x, j), (x1, j1)]) (vs1 := [j1]) (g := gName j) (g1 := gName j1) (tt := tYes) (tt1 := tYes) (wi1 := fun σ H R => BlkF X scope fun Y => iList X.K (WE Y iter1) σ H R) (te := fun σ H Q => BlkF X scope fun Y => WE Y elt σ H Q) hc hn (pi_list (WE.pe X iter)) hb (by simp) hgt (fun _ _ _ _ _ => pts_nil)
    (fun s H C cl fp => ⟨fun pins s' σ' H' R I q => (pi_list (WE.pe _ iter1)).run pins s' σ' H' R I (q s H C cl fp)⟩) hgt1 (fun _ _ _ _ _ => pts_nil) (fun s H C cl fp => ⟨fun pins s' σ' H' Q I q => q s H C cl fp pins s' I⟩) hs hs1) fun σ H Q s q => t_lc2 j j1 hjj hlen h hel s q
end
end DL

namespace DL
open PySem PySem.Spec L2
section
variable {X : Cx} {ω : Ow} {δ : Env} {e a b c v1 v2 v3 : Expr} {Φ : Ow → Cell → Prop} {pos p1 p2 p3 : Pos} {x : Str}
/-- a list as a test -/
theorem nt_truL {Ψ : Ow → Bool → Prop} (h : N X ω δ a fun ω1 c => ∃ ds, c = .dat (.list ds) ∧ Ψ ω1 (!ds.isEmpty)) (he : ∀ whole, isTrue a X.env whole = (do let v ← whole; standAt a.pos; holding [v] (truthy v)) := by intro _; rfl) : NT X ω δ a Ψ := fun σ H Q s q =>
  WT.of (pt_truth (WE.pe X a) he) (h σ H _ s fun ω1 c v H1 ⟨ds, e1, f⟩ s1 k1 o1 => by
    subst e1
    cases o1 with
    | lst hl r =>
      refine ⟨_, .inl ⟨_, SqL.of (hid_some hl).2, rfl⟩, q ω1 _ H1 ?_ s1 k1⟩
      have e : ∀ {vs : List V}, RpA X.K (hid (dom ω1) H1) vs ds → vs.isEmpty = ds.isEmpty := fun r => by cases r <;> rfl
      rw [e r]
      exact f)
/-- {'..': v1, '..': v2, '..': v3}, three texts as keys -/
theorem n_dict3 {w1 w2 w3 : Str} {j1 j2 j3} {d1 d2 d3 : PyData} (hk : ∀ a b c : V, mergeK [] [((.inr w1 : Key), a), (.inr w2, b), (.inr w3, c)] = [(.inr w1, a), (.inr w2, b), (.inr w3, c)])
    (h1 : ∀ p, N X ((p, dkP) :: ω) δ v1 fun ω1 c1 => ω1 = (p, dkP) :: ω ∧ c1 = .dat d1) (h2 : ∀ p, N X ((p, dkP) :: ω) δ v2 fun ω1 c1 => ω1 = (p, dkP) :: ω ∧ c1 = .dat d2)
    (h3 : ∀ p, N X ((p, dkP) :: ω) δ v3 fun ω1 c1 => ω1 = (p, dkP) :: ω ∧ c1 = .dat d3) (h : Φ ω (.dat (.dict [(.str w1, d1), (.str w2, d2), (.str w3, d3)]))) :
    N X ω δ (.Dict [some (.Constant (.str w1) j1 p1), some (.Constant (.str w2) j2 p2), some (.Constant (.str w3) j3 p3)] [v1, v2, v3] pos) Φ :=
  n_lift (pe_disp (pps_cons pe_str (WE.pe X v1) (pps_cons pe_str (WE.pe X v2) (pps_cons pe_str (WE.pe X v3) pps_nil))) rfl rfl (fun z => by cases z) (Nat.le_of_ble_eq_true rfl)) fun σ H Q s q p hp => by
    have k0 := (s.own.cons (P := dkP) hp rfl).2
    refine h1 p σ _ _ (s.cons (P := dkP) hp rfl) fun ω1 c1 y1 H1 ⟨e1, e2⟩ s1 k1 o1 => ?_
    subst e1; subst e2
    refine h2 p σ H1 _ s1 fun ω1 c1 y2 H2 ⟨e1, e2⟩ s2 k2 o2 => ?_
    subst e1; subst e2
    refine h3 p σ H2 _ s2 fun ω1 c1 y3 H3 ⟨e1, e2⟩ s3 k3 o3 => ?_
    subst e1; subst e2
    obtain ⟨o, g1, g2⟩ := s3.own.at_ p _ List.mem_cons_self
    have g2' : o = .dK [] := g2
    subst g2'
    refine ⟨g1, [(.inr w1, y1), (.inr w2, y2), (.inr w3, y3)], rfl, Nat.le_of_ble_eq_true rfl, ?_⟩
    have nd := List.nodup_cons.mp s3.own.nd
    have kk : Kp (dom ((p, dkP) :: ω)) H3 (dom ω) (upd H3 p (.dK (mergeK [] [((.inr w1 : Key), y1), (.inr w2, y2), (.inr w3, y3)]))) := (kp_upd List.mem_cons_self).trans (kp_drop (P := dkP))
    have oo : OwnOk X.K ω (upd H3 p (.dK (mergeK [] [((.inr w1 : Key), y1), (.inr w2, y2), (.inr w3, y3)]))) := by
      refine ⟨nd.2, fun a R z => ?_⟩
      obtain ⟨u, g1, g2⟩ := s3.own.at_ a R (List.mem_cons_of_mem _ z)
      have hne : a ≠ p := fun e => nd.1 (List.mem_map.mpr ⟨(a, R), z, e⟩)
      exact ⟨u, by rw [upd_ne hne]; exact g1, R.mono _ _ _ _ kk g2⟩
    refine q ω _ _ _ h ⟨s3.env.mono kk, oo⟩ (k0.trans (k1.trans (k2.trans (k3.trans kk)))) ?_
    have r1 : Rp X.K _ y1 d1 := (o1.mono (c := .dat d1) (k2.trans (k3.trans kk)))
    have r2 : Rp X.K _ y2 d2 := (o2.mono (c := .dat d2) (k3.trans kk))
    have r3 : Rp X.K _ y3 d3 := (o3.mono (c := .dat d3) kk)
    exact .dic (kvs := [(.inr w1, y1), (.inr w2, y2), (.inr w3, y3)]) (by rw [hid_out nd.1, upd_same, hk]) (.cons (k := .inr w1) r1 (.cons (k := .inr w2) r2 (.cons (k := .inr w3) r3 .nil)))
theorem key_str {k : Key} {w : Str} (h : keyD k = .str w) : k = .inr w := by
  cases k with
  | inl i => cases h
  | inr y => cases h; rfl
theorem rpk_nil {K : PySem.W.Frag} {H : Hp} {L : List (PyData × PyData)} (r : RpK K H [] L) : L = [] := by cases r; rfl
/-- such a dict, read at one of its keys -/
theorem n_dget3 (hu : X.A.units + 64 < cLine) (hs : NoSl b) (h : N X ω δ a fun ω1 c1 => N X ω1 δ b fun ω2 c2 => ∃ w1 w2 w3 d1 d2 d3 w, c1 = .dat (.dict [(.str w1, d1), (.str w2, d2), (.str w3, d3)]) ∧ c2 = .dat (.str w) ∧ (w = w1 ∨ w = w2 ∨ w = w3) ∧
      Φ ω2 (.dat (if w = w1 then d1 else if w = w2 then d2 else d3))) : N X ω δ (.Subscript a b pos) Φ :=
  n_lift (pe_dget (by omega) (WE.pe X a) (WE.pe X b) hs) fun σ H Q s q => h σ H _ s fun ω1 c1 y1 H1 f1 s1 k1 o1 => f1 σ H1 _ s1 fun ω2 c2 y2 H2 ⟨w1, w2, w3, d1, d2, d3, w, e1, e2, hw, f⟩ s2 k2 o2 => by
    subst e1; subst e2
    cases str_of o2
    have o3 := Rp.mono k2 o1
    generalize hL : [(PyData.str w1, d1), (PyData.str w2, d2), (PyData.str w3, d3)] = L at o3
    cases o3 with
    | ins _ _ _ => injection hL with h1 _; injection h1 with h2 _; cases h2
    | @dic a kvs _ hl r =>
      have fin : ∀ v, valV kvs (.inr w) = some v → Rp X.K (hid (dom ω2) H2) v (if w = w1 then d1 else if w = w2 then d2 else d3) → ∃ a_1 v, V.ref a = V.ref a_1 ∧ DGet H2 a_1 (V.str w) (some v) ∧ Q v H2 := fun v g1 g2 =>
        ⟨a, v, rfl, by rw [← g1]; exact DGet.k (k := .inr w) (hid_some hl).2, q ω2 _ v H2 f s2 (k1.trans k2) g2⟩
      have step : ∀ {k : Key} {v : V} {rr : List (Key × V)} {L2 : List (PyData × PyData)} {u : Str} {d : PyData}, RpK X.K (hid (dom ω2) H2) ((k, v) :: rr) ((.str u, d) :: L2) → k = .inr u ∧ Rp X.K (hid (dom ω2) H2) v d ∧ RpK X.K (hid (dom ω2) H2) rr L2 := by
        intro k v rr L2 u d r
        generalize hM : (PyData.str u, d) :: L2 = M at r
        cases r with
        | cons r1 r2 =>
          injection hM with h1 h2
          injection h1 with h3 h4
          subst h2; subst h4
          exact ⟨key_str h3.symm, r1, r2⟩
      subst hL
      match kvs, r with
      | [], r => exact absurd (rpk_nil r) (List.cons_ne_nil _ _)
      | [(a1, b1)], r =>
        obtain ⟨_, _, r'⟩ := step r
        exact absurd (rpk_nil r') (List.cons_ne_nil _ _)
      | [(a1, b1), (a2, b2)], r =>
        obtain ⟨_, _, r'⟩ := step r
        obtain ⟨_, _, r''⟩ := step r'
        exact absurd (rpk_nil r'') (List.cons_ne_nil _ _)
      | (a1, b1) :: (a2, b2) :: (a3, b3) :: _, r =>
        obtain ⟨rfl, r1, r'⟩ := step r
        obtain ⟨rfl, r2, r''⟩ := step r'
        obtain ⟨rfl, r3, _⟩ := step r''
        by_cases z1 : w = w1
        · subst z1
          rw [if_pos rfl] at fin
          exact fin b1 (valV_pos rfl) r1
        · rw [if_neg z1] at fin
          have n1 : ¬ ((.inr w1 : Key) = .inr w) := fun z => z1 (by cases z; rfl)
          by_cases z2 : w = w2
          · subst z2
            rw [if_pos rfl] at fin
            exact fin b2 ((valV_neg n1).trans (valV_pos rfl)) r2
          · rw [if_neg z2] at fin
            have n2 : ¬ ((.inr w2 : Key) = .inr w) := fun z => z2 (by cases z; rfl)
            have z3 : w = w3 := by rcases hw with h | h | h <;> first | exact h | exact absurd h z1 | exact absurd h z2
            subst z3
            exact fin b3 ((valV_neg n1).trans ((valV_neg n2).trans (valV_pos rfl))) r3
/-- a dict of the module's own top with texts as keys, read at one of them -/
def KdC (K : PySem.W.Frag) (w : World) (mg : Str → Option Value) (x : Str) (tab : List (Str × List PyData)) : Prop := ∃ a, mg x = some (.ref a) ∧ ∀ z ds, (z, ds) ∈ tab → ∃ v, KDct K w a z v ∧ ∀ H, Rp K H v (.tuple ds)
theorem n_kdix {tab : List (Str × List PyData)} (c : KdC X.K X.w X.mg x tab) (hp : PlainIx b) (h : N X ω δ b fun ω1 c1 => ∃ z ds, c1 = .dat (.str z) ∧ (z, ds) ∈ tab ∧ Φ ω1 (.dat (.tuple ds))) (hg : Gl X x := by rfl) (hdb : (x == ("__debug__" : Str)) = false := by decide) : N X ω δ (.Subscript (.Name x p1) b pos) Φ := by
  obtain ⟨a, h1, h2⟩ := c
  exact n_lift (pe_ix ix_kdict (pe_glob (v := .ref a) hg h1 rfl hdb) (WE.pe X b) hp) fun σ H Q s q => h σ H _ s fun ω1 c1 y H1 ⟨z, ds, e1, hm, f⟩ s1 k1 o1 => by
    subst e1
    cases str_of o1
    obtain ⟨v, g1, g2⟩ := h2 z ds hm
    exact ⟨a, z, v, rfl, rfl, g1, q ω1 _ v H1 f s1 k1 (g2 _)⟩
end
end DL

namespace DL
open PySem PySem.Spec L2
section
variable {X : Cx} {ω : Ow} {δ : Env} {e a b c : Expr} {st : Stmt} {E : En} {Φ : Ow → Cell → Prop} {pos p1 p2 p3 : Pos} {x : Str}
/-! ## a sealed list opened for an expression, for a statement -/
theorem n_open {n : Nat} {p : Addr} {I : List PyData → Prop} (hn : ω[n]? = some (p, sealP I)) (h : ∀ its, I its → N X (ω.set n (p, lstP its)) δ e fun ω' c => ∃ jts, I jts ∧ ω' = ω.set n (p, lstP jts) ∧ Φ ω c) : N X ω δ e Φ := fun σ H Q s q => by
  obtain ⟨its, hI, ow⟩ := opened_ s.own hn
  have de : ∀ jts, dom (ω.set n (p, lstP jts)) = dom ω := fun _ => dom_set hn
  refine h its hI σ H Q ⟨by rw [de]; exact s.env, ow⟩ ?_
  rintro ω' c v H' ⟨jts, hJ, rfl, f⟩ s' k o
  rw [de] at o
  rw [de, de] at k
  exact q ω c v H' f ⟨by have := s'.env; rw [de] at this; exact this, closed_ hn hJ s'.own⟩ k o
theorem nt_open {Ψ : Ow → Bool → Prop} {n : Nat} {p : Addr} {I : List PyData → Prop} (hn : ω[n]? = some (p, sealP I)) (h : ∀ its, I its → NT X (ω.set n (p, lstP its)) δ e fun ω' c => ∃ jts, I jts ∧ ω' = ω.set n (p, lstP jts) ∧ Ψ ω c) : NT X ω δ e Ψ := fun σ H Q s q => by
  obtain ⟨its, hI, ow⟩ := opened_ s.own hn
  have de : ∀ jts, dom (ω.set n (p, lstP jts)) = dom ω := fun _ => dom_set hn
  refine h its hI σ H Q ⟨by rw [de]; exact s.env, ow⟩ ?_
  rintro ω' c H' ⟨jts, hJ, rfl, f⟩ s' k
  rw [de, de] at k
  exact q ω c H' f ⟨by have := s'.env; rw [de] at this; exact this, closed_ hn hJ s'.own⟩ k
theorem s_open {n : Nat} {p : Addr} {I : List PyData → Prop} (hn : ω[n]? = some (p, sealP I)) (h : ∀ its, I its → S X (ω.set n (p, lstP its)) δ st (closeE ω n p I E)) : S X ω δ st E := fun σ H D s f => by
  obtain ⟨its, hI, ow⟩ := opened_ s.own hn
  have de : ∀ jts, dom (ω.set n (p, lstP jts)) = dom ω := fun _ => dom_set hn
  refine h its hI σ H D ⟨by rw [de]; exact s.env, ow⟩ ⟨?_, ?_, ?_, ?_⟩
  · rintro ω' δ' σ' H' ⟨jts, hJ, rfl, q⟩ s' k
    rw [de, de] at k
    exact f.nx ω δ' σ' H' q ⟨by have := s'.env; rw [de] at this; exact this, closed_ hn hJ s'.own⟩ k
  · rintro ω' c v H' ⟨jts, hJ, rfl, q⟩ s' k o
    rw [de] at o
    rw [de, de] at k
    exact f.rt ω c v H' q (closed_ hn hJ s') k o
  · rintro ω' δ' σ' H' ⟨jts, hJ, rfl, q⟩ s' k
    rw [de, de] at k
    exact f.bk ω δ' σ' H' q ⟨by have := s'.env; rw [de] at this; exact this, closed_ hn hJ s'.own⟩ k
  · rintro ω' δ' σ' H' ⟨jts, hJ, rfl, q⟩ s' k
    rw [de, de] at k
    exact f.ct ω δ' σ' H' q ⟨by have := s'.env; rw [de] at this; exact this, closed_ hn hJ s'.own⟩ k
/-! ## an owned list looked at: its class, ==, repr -/
theorem peek {K : PySem.W.Frag} {H : Hp} {n : Nat} {p : Addr} {ds : List PyData} (s : OwnOk K ω H) (hw : ω[n]? = some (p, lstP ds)) : Rp K H (.ref p) (.list ds) := by
  obtain ⟨u, m1, vs, rfl, m2⟩ := s.at_ p _ (List.mem_of_getElem? hw)
  exact .lst m1 (m2.mono hid_same)
theorem n_isiO (i n : Nat) {y : Str} {p : Addr} {ds : List PyData} (hd : δ[i]? = some (some (.raw (.ref p)))) (hw : ω[n]? = some (p, lstP ds)) (hm : X.mg "isinstance" = none) (hy : X.mg y = none) (T : Ty) (h : Φ ω (.dat (.bool (isT T (.list ds))))) (hv : bootBuiltins y = some (.type T.name) := by decide +kernel)
    (hg : Gl X "isinstance" := by rfl) (hgy : Gl X y := by rfl) (hn : y ≠ "__name__" := by decide) (hdb : (y == ("__debug__" : Str)) = false := by decide)
    (he : starEach [.Name x p3, .Name y p2] X.env = (false, eval (.Name x p3) X.env) :: starEach [.Name y p2] X.env := by rfl) (he2 : starEach [.Name y p2] X.env = (false, eval (.Name y p2) X.env) :: starEach [] X.env := by rfl)
    (hpl : (backTo pos (starEach [.Name y p2] X.env)).any (·.1) = false := by rfl) (hN : X.N[i]? = some x := by rfl)
    (hvi : Vis X.env.scope x := by first | exact Or.inl rfl | exact Or.inr (Or.inl rfl) | exact Or.inr (Or.inr rfl)) (hgx : (x == ("__debug__" : Str)) = false := by decide) (hcd : (x == ("__classdict__" : Str)) = false := by decide) (hT : T.isDict = false := by rfl) : N X ω δ (.Call (.Name "isinstance" p1) [.Name x p3, .Name y p2] [] pos) Φ :=
  n_callB call_isi hm (na_cons (n_var i (na_cons (n_lift (Φ := fun ω2 c2 => ω2 = ω ∧ c2 = .raw (.ty T.name)) (pe_bltn (v := .ty T.name) hgy hy hv rfl hn hdb) (fun σ H Q s q => q ω _ _ H ⟨rfl, rfl⟩ s (Kp.refl _ _) rfl) |>.imp fun ω2 c2 ⟨e2, e3⟩ => na_nil fun vs σ H Q s o q => by
    subst e2; subst e3
    obtain ⟨v, w, rfl, ov, ow⟩ := cells2 o
    cases ow
    cases ov
    have r : Rp X.K (hid [] H) (.ref p) (.list ds) := Rp.mono (fun _ _ z => by rw [hid_out (by simp)]; exact z) (peek s.own hw)
    obtain ⟨t, ht, hk⟩ := tyx_of r
    exact ⟨_, .ty T.name, t, .type T.name, _, rfl, .ty T.name, ht, hk T hT, q ω2 _ _ H h s (Kp.refl _ _) (Rp.bl _)⟩) he2) hd hN hvi hgx hcd) he) hg (he := he) (hpl := hpl)
theorem n_eqO (i n : Nat) {p : Addr} (hu : X.A.units + 64 < cLine) (hd : δ[i]? = some (some (.raw (.ref p)))) (h : N X ω δ b fun ω2 c2 => ∃ ds d2, ω2[n]? = some (p, lstP ds) ∧ c2 = .dat d2 ∧ SeqAt.shaped (.list ds) = true ∧ SeqAt.shaped d2 = true ∧ Φ ω2 (.dat (.bool (PyData.eqv (.list ds) d2)))) (hN : X.N[i]? = some x := by rfl)
    (hvi : Vis X.env.scope x := by first | exact Or.inl rfl | exact Or.inr (Or.inl rfl) | exact Or.inr (Or.inr rfl)) (hgx : (x == ("__debug__" : Str)) = false := by decide) (hcd : (x == ("__classdict__" : Str)) = false := by decide) : N X ω δ (.Compare (.Name x p1) [.Eq] [b] pos) Φ :=
  n_cop (op_eqD hu) (nomark _) (n_var i (h.imp fun ω2 c2 ⟨ds, d2, hw, e2, h1, h2, f⟩ => fun v y σ H Q s o1 o2 q => by
    subst e2
    cases o1
    exact ⟨_, _, dp_of (SeqAt.canLay_of_shaped h1) (peek s.own hw), dp_of (SeqAt.canLay_of_shaped h2) (Rp.mono hid_same o2), h1, h2, q ω2 _ _ H f s (Kp.refl _ _) (Rp.bl _)⟩) hd hN hvi hgx hcd)
theorem n_reprO (i n : Nat) {p : Addr} {ds : List PyData} (hgd : X.A.guards = some []) (hsm : ∃ m, X.base.Ns sysModules m) (hu : X.A.units + 100 < cLine) (hm : X.mg "repr" = none) (hd : δ[i]? = some (some (.raw (.ref p)))) (hw : ω[n]? = some (p, lstP ds)) (sh : Shows (.list ds)) (h : Φ ω (.dat (.str (PyData.list ds).shown)))
    (hg : Gl X "repr" := by rfl) (he : starEach [.Name x p3] X.env = (false, eval (.Name x p3) X.env) :: starEach [] X.env := by rfl) (hN : X.N[i]? = some x := by rfl)
    (hvi : Vis X.env.scope x := by first | exact Or.inl rfl | exact Or.inr (Or.inl rfl) | exact Or.inr (Or.inr rfl)) (hgx : (x == ("__debug__" : Str)) = false := by decide) (hcd : (x == ("__classdict__" : Str)) = false := by decide) : N X ω δ (.Call (.Name "repr" p1) [.Name x p3] [] pos) Φ :=
  n_callB (call_reprD hgd hsm hu) hm (na_cons (n_var i (na_nil fun vs σ H Q s o q => by
    obtain ⟨v, rfl, ov⟩ := cells1 o
    cases ov
    exact ⟨_, _, rfl, peek s.own hw, sh, q ω _ _ H h s (Kp.refl _ _) (Rp.str _)⟩) hd hN hvi hgx hcd) he) hg (he := he)
end
end DL

namespace DL
open PySem PySem.Spec L2
section
variable {X : Cx} {ω : Ow} {δ : Env} {a b : Expr} {Φ : Ow → Cell → Prop} {pos : Pos}
/-- + of long lists -/
theorem n_catM (h : N X ω δ a fun ω1 c1 => N X ω1 δ b fun ω2 c2 => ∃ d1 d2, c1 = .dat (.list d1) ∧ c2 = .dat (.list d2) ∧ d1.length + d2.length ≤ 10000000 ∧ Φ ω2 (.dat (.list (d1 ++ d2)))) : N X ω δ (.BinOp a .Add b pos) Φ :=
  n_bop op_cat (h.imp fun _ _ h1 => h1.imp fun ω2 _ ⟨d1, d2, e1, e2, z, f⟩ x y σ H Q s o1 o2 q => by
    subst e1; subst e2
    cases o1 with
    | lst h1 r1 =>
      cases o2 with
      | lst h2 r2 =>
        exact ⟨_, _, _, _, rfl, rfl, (hid_some h1).2, (hid_some h2).2, by rw [r1.len, r2.len]; exact Nat.le_trans z (by decide), fun p hp => q ω2 _ _ _ f (s.new hp) (kp_new s.own hp) (new_lst s.own hp (r1.append r2))⟩)
theorem cut_take {α : Type} (xs : List α) (a : Nat) : cutD xs none (some (a : Int)) = xs.take a := by
  unfold cutD
  rw [HT.sIx_nat, show HT.sIx xs.length 0 none = 0 from rfl, List.drop_zero, Nat.sub_zero]
  by_cases h : a ≤ xs.length
  · rw [Nat.min_eq_left h]
  · rw [Nat.min_eq_right (by omega), List.take_length, List.take_of_length_le (by omega)]
theorem cut_drop {α : Type} (xs : List α) (a : Nat) : cutD xs (some (a : Int)) none = xs.drop a := by
  unfold cutD
  rw [HT.sIx_nat, show HT.sIx xs.length xs.length none = xs.length from rfl]
  by_cases h : a ≤ xs.length
  · rw [Nat.min_eq_left h]
    exact List.take_of_length_le (by rw [List.length_drop]; omega)
  · rw [Nat.min_eq_right (by omega), List.drop_length, List.drop_of_length_le (by omega)]
    simp
end
end DL

namespace DL
open PySem PySem.Spec L2
/-! ## a dict of the top whose values are tuples of flat things -/
theorem kd_tup {K : PySem.W.Frag} {a b : Addr} {z : Str} {dd : Option Addr} {us : List Value} {n : Nat} {sl : Array (Option Value)} {ds : List PyData} (e : PySem.W.nsIn K a z = some (some (.ref b)))
    (l : K.lookup b = some ⟨.type "tuple", dd, .seq us.toArray n, sl⟩) (r : KRels K us ds) (hz : ds.length ≤ 1000 := by decide) : ∃ u v, PySem.W.nsIn K a z = some (some u) ∧ RelV v u ∧ ∀ H, Rp K H v (.tuple ds) :=
  ⟨_, .ref b, e, rfl, fun H => by
    obtain ⟨vs, h1, h2⟩ := r.rp H
    exact .tup (.inr ⟨_, us.toArray, n, l, rfl, rfl, by rw [List.size_toArray, r.len]; exact sz1000 hz, by simpa using h1⟩) h2⟩
theorem kd_mk {K : PySem.W.Frag} {w : World} {mg : Str → Option Value} {h : Heap} {x : Str} {a : Addr} {es : Array DictEntry} {n : Nat} {tab : List (Str × List PyData)} (X : K.In h) (G : h.Ns mainGlobals mg) (e : PySem.W.nsIn K mainGlobals x = some (some (.ref a)))
    (l : K.lookup a = some ⟨.type "dict", none, .dict es n, #[]⟩) (kl : PySem.W.KeysLit w.params es.toList) (r : ∀ q ∈ tab, ∃ u v, PySem.W.nsIn K a q.1 = some (some u) ∧ RelV v u ∧ ∀ H, Rp K H v (.tuple q.2)) : KdC K w mg x tab :=
  ⟨a, PySem.W.mg_of X G e, fun z ds hm => by
    obtain ⟨u, v, h1, h2, h3⟩ := r (z, ds) hm
    exact ⟨v, ⟨es, n, u, l, kl, h1, h2⟩, h3⟩⟩
end DL

namespace DL
open PySem PySem.Spec L2
section
variable {X : Cx} {ω : Ow} {δ : Env} {a b : Expr} {Φ : Ow → Cell → Prop} {pos p1 p2 p3 pc : Pos} {x : Str} {j : Nat}
/-- o.pop(0), o an owned list -/
theorem n_pop0 (i n : Nat) {p : Addr} {ds : List PyData} {d : PyData} (hd : δ[i]? = some (some (.raw (.ref p)))) (hw : ω[n]? = some (p, lstP (d :: ds))) (h : Φ (ω.set n (p, lstP ds)) (.dat d)) (hN : X.N[i]? = some x := by rfl)
    (hbase : attributeBase (.Name x p1) "pop" X.env (eval (.Name x p1) X.env) = eval (.Name x p1) X.env := by rfl)
    (hfew : ((backTo p3 (starEach [.Constant (.int 0) j pc] X.env)).all (fun x => !x.1) && (backToKw p3 (keywordEach [] X.env)).all (fun x => x.1.isSome)
      && decide ([Expr.Constant (.int 0) j pc].length + ([] : List Keyword).length + (if ([] : List Keyword).isEmpty then 0 else 1) < 30)) = true := by rfl)
    (hline : (p2.endLine == p3.line) = true := by rfl) (hst : starEach [.Constant (.int 0) j pc] X.env = (false, eval (.Constant (.int 0) j pc) X.env) :: starEach [] X.env := by rfl) (hplain : (backTo p3 (starEach [] X.env)).any (·.1) = false := by rfl)
    (hv : Vis X.env.scope x := by first | exact Or.inl rfl | exact Or.inr (Or.inl rfl) | exact Or.inr (Or.inr rfl)) (hg : (x == ("__debug__" : Str)) = false := by decide) (hcd : (x == ("__classdict__" : Str)) = false := by decide) :
    N X ω δ (.Call (.Attribute (.Name x p1) "pop" p2) [.Constant (.int 0) j pc] [] p3) Φ :=
  n_lift (pe_bm PySem.F.plainAttrs_list PySem.F.slot_list_pop PySem.F.type_list_pop mt_popAt (pe_var hN hv hg hcd) (pa_cons pe_int pa_nil hst) hbase hfew hline hst hplain) fun σ H Q s q => by
    obtain ⟨v, g1, g2⟩ := s.get hd
    cases g2
    obtain ⟨u, m1, vs, rfl, m2⟩ := s.own.at_ p _ (List.mem_of_getElem? hw)
    cases m2 with
    | @cons y vs' _ _ ry m3 =>
      have kk : Kp (dom ω) H (dom (ω.set n (p, lstP ds))) (upd H p (.lst vs')) := by rw [dom_set hw]; exact kp_upd (mem_dom hw)
      refine ⟨_, g1, .inl ⟨rfl, _, SqL.of m1⟩, p, _, 0, 0, y, rfl, rfl, m1, by decide, by decide, ?_, rfl, q _ _ y _ h (s.put hw ⟨_, rfl, m3⟩) kk (Rp.mono kk ry)⟩
      unfold seqIndex?
      simp
/-- is True, is not True -/
theorem isT_of {K : PySem.W.Frag} {O : List Addr} {H : Hp} {v : V} {k : Bool} (h : CellOk K O H v (.dat (.bool k))) : v = .bl k := by cases h; rfl
theorem nt_notT {Ψ : Ow → Bool → Prop} {pl : Pos} (h : N X ω δ a fun ω1 c => ∃ k, c = .dat (.bool k) ∧ Ψ ω1 (!decide (k = true))) : NT X ω δ (.Compare a [.IsNot] [.Constant (.bool true) j pl] pos) Ψ :=
  nt_cop op_notBl (by rfl) (h.imp fun ω1 c ⟨k, e1, f⟩ => n_bl fun x y σ H Q s o1 o2 q => by
    subst e1
    cases isT_of o1
    cases isT_of o2
    exact ⟨k, true, rfl, rfl, q ω1 (.dat (.bool (!decide (k = true)))) _ H (isB.mk f) s (Kp.refl _ _) (Rp.bl _)⟩)
end
end DL

namespace DL
open PySem PySem.Spec L2
section
variable {X : Cx} {ω : Ow} {δ : Env} {a b : Expr} {Φ : Ow → Cell → Prop} {pos p1 p2 p3 : Pos}
/-- list(range(n)) -/
def rgD (n : Int) : List PyData := (List.range n.toNat).map fun i => .int (i : Nat)
theorem rg_rp {K : PySem.W.Frag} {H : Hp} (n : Int) : RpA K H (rgV 0 n) (rgD n) := by
  unfold rgV rgD
  rw [Int.sub_zero]
  have go : ∀ l : List Nat, RpA K H (l.map fun i => V.int (0 + (i : Nat))) (l.map fun i => PyData.int (i : Nat)) := by
    intro l
    induction l with
    | nil => exact .nil
    | cons x r ih =>
      simp only [List.map_cons]
      rw [Int.zero_add]
      exact .cons (.int _) ih
  exact go _
theorem n_listRg (hc : X.calm = true) (hm : X.mg "list" = none) (hm2 : X.mg "range" = none) (h : N X ω δ a fun ω1 c => ∃ n : Int, c = .dat (.int n) ∧ 0 ≤ n ∧ n ≤ 1000000 ∧ Φ ω1 (.dat (.list (rgD n)))) (hg : Gl X "list" := by rfl) (hg2 : Gl X "range" := by rfl)
    (na : starEach [.Call (.Name "range" p2) [a] [] p3] X.env = (false, eval (.Call (.Name "range" p2) [a] [] p3) X.env) :: starEach [] X.env := by rfl) (na2 : starEach [a] X.env = (false, eval a X.env) :: starEach [] X.env := by rfl) : N X ω δ (.Call (.Name "list" p1) [.Call (.Name "range" p2) [a] [] p3] [] pos) Φ :=
  n_lift (pe_listRg hc hg hm (prg_1 hg2 hm2 (WE.pe X a) na2) na) fun σ H Q s q => h σ H _ s fun ω1 c v H1 ⟨n, e1, n0, n1, f⟩ s1 k1 o1 => by
    subst e1
    cases int_of o1
    exact ⟨n, rfl, RgOk.of_le (by omega) (by omega) (by omega) n0, fun p hp => q ω1 _ _ _ f (s1.new hp) (k1.trans (kp_new s1.own hp)) (new_lst s1.own hp (rg_rp n))⟩
/-- min(a, b) of two ints -/
theorem n_min2 (hc : X.calm = true) (hm : X.mg "min" = none) (h : N X ω δ a fun ω1 c1 => N X ω1 δ b fun ω2 c2 => ∃ i j : Int, c1 = .dat (.int i) ∧ c2 = .dat (.int j) ∧ Φ ω2 (.dat (.int (if j < i then j else i)))) (hg : Gl X "min" := by rfl)
    (he : starEach [a, b] X.env = (false, eval a X.env) :: starEach [b] X.env := by rfl) (he2 : starEach [b] X.env = (false, eval b X.env) :: starEach [] X.env := by rfl) (hpl : (backTo pos (starEach [b] X.env)).any (·.1) = false := by rfl) : N X ω δ (.Call (.Name "min" p1) [a, b] [] pos) Φ :=
  n_callB (call_min2 hc) hm (na_cons (h.imp fun ω1 c1 h1 => na_cons (h1.imp fun ω2 c2 ⟨i, j, e1, e2, f⟩ => na_nil fun vs σ H Q s o q => by
    subst e1; subst e2
    obtain ⟨v, w, rfl, ov, ow⟩ := cells2 o
    cases int_of ov
    cases int_of ow
    exact ⟨i, j, rfl, q ω2 _ _ H f s (Kp.refl _ _) (Rp.int _)⟩) he2) he) hg (he := he) (hpl := hpl)
/-- int(a truth) -/
theorem n_intB (hm : X.mg "int" = none) (h : N X ω δ a fun ω1 c => ∃ k : Bool, c = .dat (.bool k) ∧ Φ ω1 (.dat (.int (if k = true then 1 else 0)))) (hg : Gl X "int" := by rfl) (he : starEach [a] X.env = (false, eval a X.env) :: starEach [] X.env := by rfl) : N X ω δ (.Call (.Name "int" p1) [a] [] pos) Φ :=
  n_callTy call_int1 hm (na_cons (h.imp fun ω1 c ⟨k, e1, f⟩ => na_nil fun vs σ H Q s o q => by
    subst e1
    obtain ⟨v, rfl, ov⟩ := cells1 o
    cases bool_of ov
    exact .inr ⟨k, rfl, q ω1 _ _ H f s (Kp.refl _ _) (Rp.int _)⟩) he) hg (he := he)
end
end DL

namespace DL
open PySem PySem.Spec L2
section
variable {X : Cx} {ω : Ow} {δ : Env} {e a b c elt iter : Expr} {Φ : Ow → Cell → Prop} {pos p1 p2 p3 : Pos} {x : Str} {scope : Scope}
/-- [elt for x in a list], kept as an owned list -/
theorem t_lcLO (j : Nat)
    (h : N X ω δ iter fun ω1 c => ∃ ds, c = .dat (.list ds) ∧ ∃ J : Nat → Ow → List PyData → Prop, J 0 ω1 [] ∧
      (∀ i ω2 acc D d0, ds[i]? = some d0 → J i ω2 acc → BlkF X scope fun Y => N Y ((D, lstP acc) :: ω2) ((δ.set j none).set j (some (.dat d0))) elt fun ω3 c => ∃ d, c = .dat d ∧ acc.length < 100000 ∧ ∃ ω4, ω3 = (D, lstP acc) :: ω4 ∧ J (i + 1) ω4 (acc ++ [d])) ∧
      ∀ ω2 acc, J ds.length ω2 acc → ∀ D, Φ ((D, lstP acc) :: ω2) (.raw (.ref D))) {σ : St} {H : Hp} {Q : VK} (s : StOk X.K ω δ σ H) (q : ∀ ω' c v H', Φ ω' c → StOk X.K ω' δ σ H' → Kp (dom ω) H (dom ω') H' → CellOk X.K (dom ω') H' v c → Q v H') :
    tLc (iList X.K (WE X iter)) (gName j) tYes (fun σ H Q => BlkF X scope fun Y => WE Y elt σ H Q) [j] σ H Q :=
  h σ H _ s fun ω1 c v H1 ⟨ds, e1, J, j0, jt, je⟩ s1 k1 o1 => by
    subst e1
    cases o1 with
    | @lst l xs _ hl hr =>
      refine ⟨l, rfl, ⟨xs, SqL.of (hid_some hl).2⟩, fun D hD => ?_⟩
      have hD0 : (lstP []).ok X.K (hid (dom ω1) H1) (.lst []) := ⟨[], rfl, .nil⟩
      refine lc_list (K := X.K) (a := l) (xs := xs) (g := gName j) (tt := tYes) (te := fun σ H Q => BlkF X scope fun Y => WE Y elt σ H Q) (vs := [j]) (σ := σ) (H1 := H1) (D := D) (Qd := fun H => Q (.ref D) H) (fun i H' => ∃ ω2 acc, J i ω2 acc ∧ StOk X.K ((D, lstP acc) :: ω2) δ σ H' ∧ Kp (dom ω1) H1 (D :: dom ω2) H') ⟨ω1, [], j0, s1.cons hD hD0, (s1.own.cons hD hD0).2⟩ ?_ ?_ ?_
      · rintro i H' _ ⟨ω2, acc, _, _, k2⟩
        exact SqL.of (hid_some (k2 _ _ hl)).2
      · rintro i y H' hy ⟨ω2, acc, hJ, s2, k2⟩
        refine ⟨set_wipe, fun s3 H3 C cl fp => ?_⟩
        obtain ⟨d0, hd0, rd0⟩ := hr.get' hy
        have sB : StOk X.K ((D, lstP acc) :: ω2) ((δ.set j none).set j (some (.dat d0))) ((wipe σ [j]).set j (some y)) H' := ⟨(s2.env.wipe j).set (c := .dat d0) (rd0.mono k2) j, s2.own⟩
        refine jt i ω2 acc D d0 hd0 hJ s3 H3 C cl fp _ _ _ sB fun ω3 c v H4 ⟨d, e1, hz, ω4, e2, hJ'⟩ s4 k4 o4 => ?_
        subst e1; subst e2
        obtain ⟨u, m1, vs, rfl, m2⟩ := s4.own.at_ D _ List.mem_cons_self
        have ho : (lstP (acc ++ [d])).ok X.K (hid (dom ((D, lstP acc) :: ω4)) H4) (.lst (vs ++ [v])) := ⟨_, rfl, m2.append (.cons o4 .nil)⟩
        refine ⟨vs, m1, by rw [m2.len]; exact Nat.lt_of_lt_of_le hz (by decide), ω4, _, hJ', ?_, (k2.trans k4).trans (kp_upd List.mem_cons_self)⟩
        have oo := s4.own.put (i := 0) (p := D) (P := lstP acc) rfl ho
        exact ⟨s2.env.mono (k4.trans (kp_upd List.mem_cons_self)), oo⟩
      · rintro H' ⟨ω2, acc, hJ, s2, k2⟩
        rw [hr.len] at hJ
        exact q _ _ _ H' (je ω2 acc hJ D) s2 (k1.trans k2) rfl
theorem n_lcLO (j : Nat) (hc : X.calm = true) (hn : X.N.Nodup) (hb : BlkOk X.N X.env.scope scope [(x, j)])
    (h : N X ω δ iter fun ω1 c => ∃ ds, c = .dat (.list ds) ∧ ∃ J : Nat → Ow → List PyData → Prop, J 0 ω1 [] ∧
      (∀ i ω2 acc D d0, ds[i]? = some d0 → J i ω2 acc → BlkF X scope fun Y => N Y ((D, lstP acc) :: ω2) ((δ.set j none).set j (some (.dat d0))) elt fun ω3 c => ∃ d, c = .dat d ∧ acc.length < 100000 ∧ ∃ ω4, ω3 = (D, lstP acc) :: ω4 ∧ J (i + 1) ω4 (acc ++ [d])) ∧
      ∀ ω2 acc, J ds.length ω2 acc → ∀ D, Φ ((D, lstP acc) :: ω2) (.raw (.ref D)))
    (hgt : BlkF X scope fun Y => PG Y (.Name x p1) (gName j)) (hs : ∀ y, foldedSetIterable iter X.env y = pure y := by intro _; rfl) : N X ω δ (.ListComp elt [{ target := .Name x p1, iter := iter, ifs := [], is_async := 0 }] scope pos) Φ :=
  n_lift (pe_lc (own := [(x, j)]) (g := gName j) (te := fun σ H Q => BlkF X scope fun Y => WE Y elt σ H Q) hc hn (pi_list (WE.pe X iter)) hb hgt (fun _ _ _ _ _ => pts_nil) (fun s H C cl fp => ⟨fun pins s' σ' H' Q I q => q s H C cl fp pins s' I⟩) hs) fun σ H Q s q => t_lcLO j h s q
end
end DL

namespace DL
open PySem PySem.Spec L2
/-! ## instances: fields, making, methods -/
def lookF : List (PyData × PyData) → Str → Option PyData
  | [], _ => none
  | (.str g, d) :: r, f => if f = g then some d else lookF r f
  | _ :: r, f => lookF r f
def putD (f : Str) (d : PyData) : List (PyData × PyData) → List (PyData × PyData)
  | [] => [(.str f, d)]
  | (.str g, e) :: r => if g = f then (.str g, d) :: r else (.str g, e) :: putD f d r
  | x :: r => x :: putD f d r
section
variable {K : PySem.W.Frag} {H : Hp}
theorem rpf_look : ∀ {vs : List (Str × V)} {fs : List (PyData × PyData)} {f : Str} {d : PyData}, RpF K H vs fs → lookF fs f = some d → ∃ v, vs.lookup f = some v ∧ Rp K H v d
  | _, _, _, _, .nil, e => by cases e
  | _, _, f, d, @RpF.cons _ _ g v r d1 ds h t, e => by
    unfold lookF at e
    rw [List.lookup_cons]
    by_cases q : f = g
    · rw [if_pos q] at e
      cases e
      exact ⟨v, by simp [q], h⟩
    · rw [if_neg q] at e
      rw [show (f == g) = false by simpa using q]
      exact rpf_look t e
theorem rpf_none : ∀ {vs : List (Str × V)} {fs : List (PyData × PyData)} {f : Str}, RpF K H vs fs → lookF fs f = none → vs.lookup f = none
  | _, _, _, .nil, _ => rfl
  | _, _, f, @RpF.cons _ _ g v r d1 ds h t, e => by
    unfold lookF at e
    rw [List.lookup_cons]
    by_cases q : f = g
    · rw [if_pos q] at e
      cases e
    · rw [if_neg q] at e
      rw [show (f == g) = false by simpa using q]
      exact rpf_none t e
theorem rpf_put {f : Str} {v : V} {d : PyData} (q : Rp K H v d) : ∀ {vs : List (Str × V)} {fs : List (PyData × PyData)}, RpF K H vs fs → RpF K H (L2.putF f v vs) (putD f d fs)
  | _, _, .nil => .cons q .nil
  | _, _, @RpF.cons _ _ g w r d1 ds h t => by
    unfold L2.putF putD
    by_cases z : g = f
    · rw [if_pos z, if_pos z]
      exact .cons q t
    · rw [if_neg z, if_neg z]
      exact .cons h (rpf_put q t)
theorem rpf_len : ∀ {vs : List (Str × V)} {fs : List (PyData × PyData)}, RpF K H vs fs → vs.length = fs.length
  | _, _, .nil => rfl
  | _, _, .cons _ t => by simp [rpf_len t]
theorem ins_of {v : V} {C : Addr} {fs : List (PyData × PyData)} (r : Rp K H v (insD C fs)) : ∃ a dx vs, v = .ref a ∧ H a = some (.ins C dx vs) ∧ InsOk K C ∧ RpF K H vs fs := by
  unfold insD at r
  generalize hL : ((PyData.none, insT) :: (PyData.none, PyData.int (Int.ofNat C)) :: fs) = L at r
  cases r with
  | @dic a kvs _ h1 h2 =>
    cases h2 with
    | nil => cases hL
    | @cons k v r d ds h3 h4 =>
      injection hL with e1 _
      injection e1 with e2 _
      cases k <;> cases e2
  | @ins a dx C' vs ds h1 h2 h3 =>
    injection hL with _ e1
    injection e1 with e2 e3
    injection e2 with _ e4
    injection e4 with e5
    injection e5 with e6
    subst e6; subst e3
    exact ⟨a, dx, vs, rfl, h1, h2, h3⟩
end
/-- an instance that is being made -/
def insP (C : Addr) (fs : List (PyData × PyData)) : OwnP := ⟨fun K H o => ∃ dx vs, o = .ins C dx vs ∧ RpF K H vs fs, fun K H H' o e ⟨dx, vs, h1, h2⟩ => ⟨dx, vs, h1, h2.mono e⟩⟩
theorem own_ins {K : PySem.W.Frag} {ω : Ow} {H : Hp} {p C : Addr} {fs : List (PyData × PyData)} (ok : InsOk K C) (s : OwnOk K ((p, insP C fs) :: ω) H) : Rp K (hid (dom ω) H) (.ref p) (insD C fs) := by
  obtain ⟨o, h1, dx, vs, rfl, h2⟩ := s.at_ p _ List.mem_cons_self
  have nd := List.nodup_cons.mp s.nd
  exact .ins (by rw [hid_out nd.1]; exact h1) ok (h2.mono kp_drop)
/-! ### classes as they stand -/
def clsA (mg : Str → Option Value) (x : Str) : Addr := match mg x with
  | some (.ref C) => C
  | _ => 0
/-- a class of the program -/
structure HasC (K : PySem.W.Frag) (mg : Str → Option Value) (x : Str) : Prop where
  at_ : mg x = some (.ref (clsA mg x))
  ok : InsOk K (clsA mg x)
  kp : PySem.W.keepIn K (.ref (clsA mg x)) = true
  makes : PySem.W.makesIn K (clsA mg x) = true
/-- a method of it -/
structure HasM (K : PySem.W.Frag) (mg : Str → Option Value) (cx m qual : Str) (st : Stmt) (ps : List Str) : Prop where
  ex : ∃ f fd, Fun K m qual st f fd ∧ Meth K (clsA mg cx) m f ∧ Binds K fd ps []
theorem clsA_of {mg : Str → Option Value} {x : Str} {C : Addr} (h : mg x = some (.ref C)) : clsA mg x = C := by unfold clsA; rw [h]
theorem hasC_mk {K : PySem.W.Frag} {mg : Str → Option Value} {x : Str} {C : Addr} {h : Heap} (X : K.In h) (G : h.Ns mainGlobals mg) (a : PySem.W.nsIn K mainGlobals x = some (some (.ref C))) (ok : InsOk K C) (kp : PySem.W.keepIn K (.ref C) = true) (mk : PySem.W.makesIn K C = true) : HasC K mg x := by
  have e := PySem.W.mg_of X G a
  have c := clsA_of e
  exact ⟨by rw [c]; exact e, by rw [c]; exact ok, by rw [c]; exact kp, by rw [c]; exact mk⟩
theorem hasM_mk {K : PySem.W.Frag} {mg : Str → Option Value} {cx m qual : Str} {st : Stmt} {ps : List Str} {C f : Addr} {h : Heap} {od an : Option Addr} {sl : Array (Option Value)} {oc kV doc pm cd ct : Value} (X : K.In h) (G : h.Ns mainGlobals mg) (a : PySem.W.nsIn K mainGlobals cx = some (some (.ref C)))
    (at_ : PySem.W.findIn K (.ref C) m = some (some (.ref f))) (fn : PySem.W.isFn K (.ref f) = true) (kp : PySem.W.keepIn K (.ref f) = true)
    (l : K.lookup f = some ⟨oc, od, .func (PySem.W.fnOf m qual (defArgs st) (defBody st) (defScope st) .none kV doc pm an cd ct), sl⟩) (c : PySem.W.codeIn K cd qual = true)
    (b : ∀ (kV doc pm : Value) (an : Option Addr) (cdv ct : Value) (us : List Value), us.length = ps.length → bindArgs (PySem.W.fnOf m qual (defArgs st) (defBody st) (defScope st) .none kV doc pm an cdv ct) ⟨us, []⟩ = pure (ps.zip us)) : HasM K mg cx m qual st ps := by
  have e := clsA_of (PySem.W.mg_of X G a)
  exact ⟨f, _, fun_mk (st := st) l c kp, ⟨by rw [e]; exact at_, fn, kp⟩, (fun_mk (st := st) l c kp).binds b⟩
theorem kit_no {K : PySem.W.Frag} {C : Addr} {n : String} (hk : PySem.W.kitMeta n = true) (h : PySem.W.mroIn K C (.type n) = some false) : PySem.W.kitOne K (.ref C) (.type n) = some false := by
  unfold PySem.W.kitOne PySem.W.kitCls
  rw [if_neg (by simp)]
  show (if PySem.W.kitMeta n = true then _ else _) = _
  rw [if_pos hk]
  exact h
theorem kit_mk {K : PySem.W.Frag} {C : Addr} (h1 : PySem.W.mroIn K C (.type "int") = some false) (h2 : PySem.W.mroIn K C (.type "bool") = some false) (h3 : PySem.W.mroIn K C (.type "str") = some false) (h4 : PySem.W.mroIn K C (.type "list") = some false)
    (h5 : PySem.W.mroIn K C (.type "tuple") = some false) (h6 : PySem.W.mroIn K C (.type "dict") = some false) : ∀ n ∈ (["int", "bool", "str", "list", "tuple", "dict"] : List String), PySem.W.kitOne K (.ref C) (.type n) = some false := by
  intro n hn
  simp only [List.mem_cons, List.not_mem_nil, or_false] at hn
  rcases hn with rfl | rfl | rfl | rfl | rfl | rfl <;> exact kit_no (by decide +kernel) (by assumption)
theorem noA_mk {K : PySem.W.Frag} {mg : Str → Option Value} {x f : Str} {C : Addr} {h : Heap} (X : K.In h) (G : h.Ns mainGlobals mg) (a : PySem.W.nsIn K mainGlobals x = some (some (.ref C))) (n : PySem.W.findIn K (.ref C) f = some none) : NoAttr K (clsA mg x) f := by
  rw [clsA_of (PySem.W.mg_of X G a)]; exact n
structure RdM (P : Program) (w : World) (K : PySem.W.Frag) (mg : Str → Option Value) (base : Heap) (k : Nat) (cx m : Str) (ps : List Str) (C : Con) : Prop where
  ex : ∃ f fd, FnOk P w K mg base CX0 k f fd ps (spD K C) ∧ Meth K (clsA mg cx) m f ∧ Binds K fd ps []
section
variable {P : Program} {w : World} {K : PySem.W.Frag} {mg : Str → Option Value} {base : Heap} {cx m qual : Str} {st : Stmt} {Nm ps : List Str} {k : Nat} {C : Con}
theorem rdm (F : HasM K mg cx m qual st ps) (sc : FnScope Nm ps (defScope st)) (len : ∀ cs ω Φ, C cs ω Φ → cs.length = ps.length)
    (body : ∀ (X : Cx) (f : Addr) (cdv : Value) (A : Around) (outer : List PySem.Env) (s : Shared) (H : Hp) (E : XK), X = (cxOf CX0 P w K mg base Nm qual (defScope st) f cdv A outer s H E).nox → Room k X.A → ∀ cs ω Φ, C cs ω Φ → B X ω (startE Nm cs) (defBody st) { nx := fun ω' _ => Φ ω' (.dat .none), rt := Φ }) :
    RdM P w K mg base (k + 1) cx m ps C := by
  obtain ⟨f, fd, F, hm, hb⟩ := F.ex
  exact ⟨f, fd, okD F sc len fun X => body X f, hm, hb⟩
end
section
variable {X : Cx} {ω : Ow} {δ : Env} {e a b o : Expr} {es : List Expr} {st : Stmt} {E : En} {Φ : Ow → Cell → Prop} {pos p1 p2 p3 : Pos} {x f : Str} {k j : Nat} {ps : List Str} {C : Con}
/-- x(e, ..), x a class: its __init__ is handed an empty instance, in front -/
theorem n_make (HC : HasC X.K X.mg x) (R : RdM X.prog X.w X.K X.mg X.base j x "__init__" ps C) (hr : Room k X.A)
    (h : NA X ω δ (e :: es) fun ω1 cs => ∀ p, C (.raw (.ref p) :: cs) ((p, insP (clsA X.mg x) []) :: ω1) fun ω' c => c = .dat .none ∧ ∃ fs ω2, ω' = (p, insP (clsA X.mg x) fs) :: ω2 ∧ Φ ω2 (.dat (insD (clsA X.mg x) fs)))
    (hjk : j + 1 ≤ k := by decide) (hg : Gl X x := by rfl) (hdb : (x == ("__debug__" : Str)) = false := by decide) (he : starEach (e :: es) X.env = (false, eval e X.env) :: starEach es X.env := by rfl) (hpl : (backTo pos (starEach es X.env)).any (·.1) = false := by rfl) : N X ω δ (.Call (.Name x p1) (e :: es) [] pos) Φ := by
  obtain ⟨fI, fd, G, hm, hb⟩ := R.ex
  have M : Mk X.K (clsA X.mg x) fI := ⟨HC.makes, hm.at_, hm.fn, HC.kp⟩
  refine n_lift (pe_make M G (hr.mono hjk) hg HC.at_ hb .nil (pass0 (X := X)) (WA.pa X _) hdb he hpl) fun σ H Q s q => h σ H _ s fun ω1 cs vs H1 f1 s1 k1 o1 p dx hp hdx hne => ?_
  have s2 := s1.new (o := .own p) hdx
  have hp2 : (upd H1 dx (.own p)) p = none := by rw [upd_ne (fun z => hne z.symm)]; exact hp
  have kk := kp_new (o := .own p) s1.own hdx
  have ho : (insP (clsA X.mg x) []).ok X.K (hid (dom ω1) (upd H1 dx (.own p))) (.ins (clsA X.mg x) dx []) := ⟨dx, [], rfl, .nil⟩
  obtain ⟨w3, k3⟩ := s2.own.cons hp2 ho
  rw [List.append_nil]
  refine ⟨_, .raw (.ref p) :: cs, _, .cons rfl (o1.mono (kk.trans k3)), w3, f1 p, fun ω' c v H2 ⟨ec, fs, ω2, eω, f2⟩ w2 k2 o2 => ?_⟩
  subst ec; subst eω
  cases o2
  refine ⟨rfl, ?_⟩
  have kt := ((kk.trans k3).trans k2).trans (kp_drop (P := insP (clsA X.mg x) fs))
  exact q ω2 _ _ H2 f2 ⟨s1.env.mono kt, w2.drop⟩ (k1.trans kt) (own_ins HC.ok w2)
/-- o.m(e, ..), o a datum of the class cx -/
theorem n_meth {cx m : Str} {apos : Pos} {pl : Sem Bool} (R : RdM X.prog X.w X.K X.mg X.base j cx m ps C) (hr : Room k X.A) (h : N X ω δ o fun ω1 c => ∃ fs, c = .dat (insD (clsA X.mg cx) fs) ∧ lookF fs m = none ∧ NA X ω1 δ (e :: es) fun ω2 cs => C (.dat (insD (clsA X.mg cx) fs) :: cs) ω2 Φ)
    (hjk : j ≤ k := by decide) (hst : starEach (e :: es) X.env = (false, eval e X.env) :: starEach es X.env := by rfl) (hpl : (backTo pos (starEach es X.env)).any (·.1) = false := by rfl)
    (ht : eval (.Call (.Attribute o m apos) (e :: es) [] pos) X.env = (do let ov ← eval o X.env; standAt apos.atName; let (g, one) ← holding [ov] (getMethod ov m pl); callWith pos g one (backTo pos (starEach (e :: es) X.env)) (backToKw pos (keywordEach [] X.env))) := by rfl) : N X ω δ (.Call (.Attribute o m apos) (e :: es) [] pos) Φ := by
  obtain ⟨f, fd, G, hm, hb⟩ := R.ex
  intro σ H Q s q pins s0 I
  -- the class's facts come with the instance
  refine (WE.of (X := X) (σ := σ) (H := H) (t := fun σ H Q => WE X o σ H fun v H1 => (∃ a dx vs, v = .ref a ∧ H1 a = some (.ins (clsA X.mg cx) dx vs) ∧ vs.lookup m = none ∧ Cls X.K (clsA X.mg cx)) ∧ ∀ a, v = .ref a → WA X (e :: es) σ H1 fun ws H2 => spD X.K C (v :: (ws ++ [])) H2 Q (fun _ _ _ => False)) ?_ ?_) pins s0 I
  · refine ⟨fun pins s σ H Q I h1 => ?_⟩
    refine PySem.W.methodCall_KW (pl := pl) (thn (h1 pins s I) fun u s1 ⟨v, H1, I1, rx, ⟨a, dx, vs, ex, ea, hl, hc⟩, q1⟩ => ?_) ht
    subst ex
    obtain rfl : u = .ref a := rx
    refine getmeth_ok I1 ea hc hm hl ?_
    refine PySem.W.callWith_K (first := [.ref a]) (h₀ := X.base) I1.ok.mod.kin hm.kp (thn (q1 a rfl pos pins s1 I1) fun us s2 ⟨ws, H2, I2, r, q2⟩ => ⟨I2.kIn, ?_⟩) hst hpl
    exact run_fn (us := .ref a :: us) (vs := .ref a :: ws) G (hr.mono hjk) hb .nil (pass0 (X := X)) I2 (.cons rfl r) q2
  · refine h σ H _ s fun ω1 c v H1 ⟨fs, ec, hl, f1⟩ s1 k1 o1 => ?_
    subst ec
    obtain ⟨a, dx, vs, ev, h1, h2, h3⟩ := ins_of o1
    subst ev
    refine ⟨⟨a, dx, vs, rfl, (hid_some h1).2, rpf_none h3 hl, h2.cls⟩, fun a' _ => f1 σ H1 _ s1 fun ω2 cs ws H2 f2 s2 k2 o2 => ?_⟩
    rw [List.append_nil]
    exact ⟨ω2, _, Φ, .cons (CellOk.mono (c := .dat _) k2 o1) o2, s2.own, f2, fun ω3 c v H3 f3 s3 k3 o3 => q ω3 c v H3 f3 ⟨s2.env.mono k3, s3⟩ (k1.trans (k2.trans k3)) o3⟩
/-- o.m() -/
theorem n_meth0 {cx m : Str} {apos : Pos} {pl : Sem Bool} (R : RdM X.prog X.w X.K X.mg X.base j cx m ps C) (hr : Room k X.A) (h : N X ω δ o fun ω1 c => ∃ fs, c = .dat (insD (clsA X.mg cx) fs) ∧ lookF fs m = none ∧ C [.dat (insD (clsA X.mg cx) fs)] ω1 Φ)
    (hjk : j ≤ k := by decide)
    (ht : eval (.Call (.Attribute o m apos) [] [] pos) X.env = (do let ov ← eval o X.env; standAt apos.atName; let (g, one) ← holding [ov] (getMethod ov m pl); callWith pos g one (backTo pos (starEach [] X.env)) (backToKw pos (keywordEach [] X.env))) := by rfl) : N X ω δ (.Call (.Attribute o m apos) [] [] pos) Φ := by
  obtain ⟨f, fd, G, hm, hb⟩ := R.ex
  intro σ H Q s q pins s0 I
  refine (WE.of (X := X) (σ := σ) (H := H) (t := fun σ H Q => WE X o σ H fun v H1 => ∃ a dx vs, v = .ref a ∧ H1 a = some (.ins (clsA X.mg cx) dx vs) ∧ vs.lookup m = none ∧ Cls X.K (clsA X.mg cx) ∧ spD X.K C [v] H1 Q (fun _ _ _ => False)) ?_ ?_) pins s0 I
  · refine ⟨fun pins s σ H Q I h1 => ?_⟩
    refine PySem.W.methodCall_KW (pl := pl) (thn (h1 pins s I) fun u s1 ⟨v, H1, I1, rx, a, dx, vs, ex, ea, hl, hc, q1⟩ => ?_) ht
    subst ex
    obtain rfl : u = .ref a := rx
    refine getmeth_ok I1 ea hc hm hl ?_
    exact PySem.W.callWith_K0 (first := [.ref a]) I1.kIn hm.kp (run_fn (us := [.ref a]) (vs := [.ref a]) G (hr.mono hjk) hb .nil (pass0 (X := X)) I1 (.cons rfl .nil) q1)
  · refine h σ H _ s fun ω1 c v H1 ⟨fs, ec, hl, f1⟩ s1 k1 o1 => ?_
    subst ec
    obtain ⟨a, dx, vs, ev, h1, h2, h3⟩ := ins_of o1
    subst ev
    exact ⟨a, dx, vs, rfl, (hid_some h1).2, rpf_none h3 hl, h2.cls, ω1, _, Φ, .cons o1 .nil, s1.own, f1, fun ω3 c v H3 f3 s3 k3 o3 => q ω3 c v H3 f3 ⟨s1.env.mono k3, s3⟩ (k1.trans k3) o3⟩
/-- o.f, o a datum -/
theorem n_fld {C : Addr} (nf : NoAttr X.K C f) (h : N X ω δ o fun ω1 c => ∃ fs d, c = .dat (insD C fs) ∧ lookF fs f = some d ∧ Φ ω1 (.dat d)) (hb : attributeBase o f X.env (eval o X.env) = eval o X.env := by rfl) : N X ω δ (.Attribute o f pos) Φ :=
  n_lift (pe_fld (WE.pe X o) hb) fun σ H Q s q => h σ H _ s fun ω1 c v H1 ⟨fs, d, ec, hl, f1⟩ s1 k1 o1 => by
    subst ec
    obtain ⟨a, dx, vs, rfl, h1, h2, h3⟩ := ins_of o1
    obtain ⟨w, h4, h5⟩ := rpf_look h3 hl
    exact ⟨a, C, dx, vs, w, rfl, (hid_some h1).2, h2.cls, nf, h4, q ω1 _ w H1 f1 s1 k1 h5⟩
/-- o.f, o an instance that is being made -/
theorem n_fldO (i n : Nat) {p C : Addr} (ok : InsOk X.K C) (nf : NoAttr X.K C f) (hd : δ[i]? = some (some (.raw (.ref p)))) {fs : List (PyData × PyData)} {d : PyData} (hw : ω[n]? = some (p, insP C fs)) (hl : lookF fs f = some d) (h : Φ ω (.dat d)) (hN : X.N[i]? = some x := by rfl)
    (hb : attributeBase (.Name x p1) f X.env (eval (.Name x p1) X.env) = eval (.Name x p1) X.env := by rfl)
    (hv : Vis X.env.scope x := by first | exact Or.inl rfl | exact Or.inr (Or.inl rfl) | exact Or.inr (Or.inr rfl)) (hg : (x == ("__debug__" : Str)) = false := by decide) (hcd : (x == ("__classdict__" : Str)) = false := by decide) : N X ω δ (.Attribute (.Name x p1) f pos) Φ :=
  n_lift (pe_fld (pe_var hN hv hg hcd) hb) fun σ H Q s q => by
    obtain ⟨v, h1, h2⟩ := s.get hd
    cases h2
    obtain ⟨o, g1, dx, vs, rfl, g2⟩ := s.own.at_ p _ (List.mem_of_getElem? hw)
    obtain ⟨w, h4, h5⟩ := rpf_look g2 hl
    exact ⟨_, h1, p, C, dx, vs, w, rfl, g1, ok.cls, nf, h4, q ω _ w H h s (Kp.refl _ _) h5⟩
/-- o.f = e, o an instance that is being made -/
theorem s_fldO (i n : Nat) {p C : Addr} (ok : InsOk X.K C) (nf : NoAttr X.K C f) (hd : δ[i]? = some (some (.raw (.ref p)))) (h : N X ω δ e fun ω1 c => ∃ fs d, ω1[n]? = some (p, insP C fs) ∧ c = .dat d ∧ fs.length < 900 ∧ E.nx (ω1.set n (p, insP C (putD f d fs))) δ) (hN : X.N[i]? = some x := by rfl)
    (hs : swapsWith e (some (.Attribute (.Name x p1) f p2)) pos.line X.env = pure false := by rfl)
    (hv : Vis X.env.scope x := by first | exact Or.inl rfl | exact Or.inr (Or.inl rfl) | exact Or.inr (Or.inr rfl)) (hg : (x == ("__debug__" : Str)) = false := by decide) (hcd : (x == ("__classdict__" : Str)) = false := by decide) : S X ω δ (.Assign [.Attribute (.Name x p1) f p2] e pos) E := fun σ H D s fi =>
  WS.of (ps_fld (pe_var hN hv hg hcd) (WE.pe X e) hs) (h σ H _ s fun ω1 c w H1 ⟨fs, d, hw, ec, hz, q⟩ s1 k1 o1 => by
    subst ec
    obtain ⟨v, h1, h2⟩ := s1.get hd
    cases h2
    obtain ⟨o, g1, dx, vs, rfl, g2⟩ := s1.own.at_ p _ (List.mem_of_getElem? hw)
    refine ⟨_, h1, p, C, dx, vs, rfl, g1, ok.cls, nf, by rw [rpf_len g2]; omega, ?_⟩
    exact fi.nx _ _ _ _ q (s1.put hw ⟨dx, _, rfl, rpf_put o1 g2⟩) (by rw [dom_set hw]; exact k1.trans (kp_upd (mem_dom hw))))
end
end DL

namespace DL
open PySem PySem.Spec L2 RZ
section
variable {X : Cx} {ω : Ow} {δ : Env} {e a b c elt iter : Expr} {st : Stmt} {body : List Stmt} {E : En} {Φ : Ow → Cell → Prop} {pos p1 p2 p3 p4 p5 : Pos} {x y : Str} {scope : Scope} {kk : Nat}
/-- isinstance(e, (T, U)) -/
theorem n_isi2 (T U : Ty) {y z : Str} {kt : Nat} {tp : Pos} (hm : X.mg "isinstance" = none) (hy : X.mg y = none) (hz : X.mg z = none) (h : N X ω δ a fun ω1 c => ∃ d, c = .dat d ∧ Φ ω1 (.dat (.bool (isT T d || isT U d)))) (hv : bootBuiltins y = some (.type T.name) := by decide +kernel) (hvz : bootBuiltins z = some (.type U.name) := by decide +kernel)
    (hg : Gl X "isinstance" := by rfl) (hgy : Gl X y := by rfl) (hgz : Gl X z := by rfl) (hn : y ≠ "__name__" := by decide) (hdb : (y == ("__debug__" : Str)) = false := by decide) (hnz : z ≠ "__name__" := by decide) (hdz : (z == ("__debug__" : Str)) = false := by decide)
    (he : starEach [a, .Tuple [.Name y p2, .Name z p3] kt tp] X.env = (false, eval a X.env) :: starEach [.Tuple [.Name y p2, .Name z p3] kt tp] X.env := by rfl)
    (he2 : starEach [.Tuple [.Name y p2, .Name z p3] kt tp] X.env = (false, eval (.Tuple [.Name y p2, .Name z p3] kt tp) X.env) :: starEach [] X.env := by rfl)
    (he3 : starEach [.Name y p2, .Name z p3] X.env = (false, eval (.Name y p2) X.env) :: starEach [.Name z p3] X.env := by rfl) (he4 : starEach [.Name z p3] X.env = (false, eval (.Name z p3) X.env) :: starEach [] X.env := by rfl)
    (hpl : (backTo pos (starEach [.Tuple [.Name y p2, .Name z p3] kt tp] X.env)).any (·.1) = false := by rfl) (hT : T.isDict = false := by rfl) (hU : U.isDict = false := by rfl) : N X ω δ (.Call (.Name "isinstance" p1) [a, .Tuple [.Name y p2, .Name z p3] kt tp] [] pos) Φ :=
  n_lift (pe_callB call_isiT hg hm (by decide +kernel) (pa_cons (WE.pe X a) (pa_cons (pe_tup (pa_cons (pe_bltn (v := .ty T.name) hgy hy hv rfl hn hdb) (pa_cons (pe_bltn (v := .ty U.name) hgz hz hvz rfl hnz hdz) pa_nil he4) he3)) pa_nil he2) he) (by decide) (by decide) he hpl) fun σ H Q s q => h σ H _ s fun ω1 c v H1 ⟨d, ec, f⟩ s1 k1 o1 => by
    subst ec
    refine ⟨by show 2 ≤ sizeLine; decide, fun t ht => ?_⟩
    have o2 := Rp.mono (kp_new (o := .tup [.ty T.name, .ty U.name]) s1.own ht) o1
    obtain ⟨tv, h1, hk⟩ := tyx_of o2
    refine ⟨v, t, [.ty T.name, .ty U.name], tv, [.type T.name, .type U.name], isT T d || isT U d, rfl, upd_same, .cons (.ty _) (.cons (.ty _) .nil), h1, ?_, q ω1 _ _ _ f (s1.new ht) (k1.trans (kp_new s1.own ht)) (Rp.bl _)⟩
    refine kitAny_cons (hk T hT) (fun e => ?_) (fun e => by rw [e]; rfl)
    rw [e, Bool.false_or]
    exact kitAny_cons (hk U hU) (fun e2 => by rw [e2]; exact kitAny_nil) (fun e2 => e2)
/-- for x, y in enumerate(a list) -/
theorem s_forEn (j l : Nat) (hp : PassesOwn (model X.prog X.w) X.A X.env X.xe) (hc : X.calm = true) (hn : X.N.Nodup) (hm : X.mg "enumerate" = none)
    (h : N X ω δ a fun ω1 c => ∃ ds, c = .dat (.list ds) ∧ ∃ I : Nat → Ow → Env → Prop, I 0 ω1 δ ∧
      (∀ i ω2 δ2 d, ds[i]? = some d → I i ω2 δ2 → B X ω2 ((δ2.set j (some (.dat (.int (i : Int))))).set l (some (.dat d))) body { nx := I (i + 1), ct := I (i + 1), bk := E.nx, rt := E.rt }) ∧ ∀ ω2 δ2, I ds.length ω2 δ2 → E.nx ω2 δ2)
    (hg : Gl X "enumerate" := by rfl) (ha : starEach [a] X.env = [(false, eval a X.env)] := by rfl) (ha2 : starEach [a] X.env = (false, eval a X.env) :: starEach [] X.env := by rfl) (hN : X.N[j]? = some x := by rfl) (hN2 : X.N[l]? = some y := by rfl)
    (hx : Loc X.env.scope x := by first | exact Or.inl rfl | exact Or.inr rfl) (hy : Loc X.env.scope y := by first | exact Or.inl rfl | exact Or.inr rfl)
    (hf : X.fn x = true ∨ X.env.scope.names.lookup x = some .local := by first | exact .inl rfl | exact .inr rfl | assumption) (hf2 : X.fn y = true ∨ X.env.scope.names.lookup y = some .local := by first | exact .inl rfl | exact .inr rfl | assumption)
    (h1 : (assignEach [.Name x p1, .Name y p2] X.env).map (·.2) = assign (.Name x p1) X.env :: (assignEach [.Name y p2] X.env).map (·.2) := by rfl) (h2 : (assignEach [.Name y p2] X.env).map (·.2) = assign (.Name y p2) X.env :: (assignEach [] X.env).map (·.2) := by rfl)
    (h3 : (assignEach [.Name x p1, .Name y p2] X.env).length = 2 := by rfl) (h4 : (assignEach [.Name x p1, .Name y p2] X.env).findIdx? (·.1) = none := by rfl)
    (hs : ∀ z, foldedSetIterable (.Call (.Name "enumerate" p4) [a] [] p5) X.env z = pure z := by intro _; rfl) : S X ω δ (.For (.Tuple [.Name x p1, .Name y p2] kk p3) (.Call (.Name "enumerate" p4) [a] [] p5) body [] pos) E := fun σ H D s f =>
  WS.of (ps_for hp hc (pi_enum hg hm (pa_cons (WE.pe X a) pa_nil ha2) ha) (pg_tup hc (pgs_cons (pg_name hn hN hx hf) (pgs_cons (pg_name hn hN2 hy hf2) pgs_nil h2) h1) h3 h4) (WB.pss X body) hs) (h σ H _ s fun ω1 c v H1 ⟨ds, e1, I, i0, it, ie⟩ s1 k1 o1 => by
    subst e1
    cases o1 with
    | @lst q xs _ hl hr =>
      refine ⟨q, xs, rfl, SqL.of (hid_some hl).2, ?_⟩
      refine ⟨fun i m σ' H' => m = xs.length - i ∧ i ≤ xs.length ∧ ∃ ω2 δ2, I i ω2 δ2 ∧ StOk X.K ω2 δ2 σ' H' ∧ Kp (dom ω1) H1 (dom ω2) H', ⟨xs.length, rfl, Nat.zero_le _, ω1, δ, i0, s1, Kp.refl _ _⟩, ?_⟩
      rintro i m σ' H' ⟨rfl, hi, ω2, δ2, hI, s2, k2⟩
      have hq : SqL X.K H' q xs := SqL.of (hid_some (k2 _ _ hl)).2
      by_cases hlt : i < xs.length
      · have hxi : xs[i]? = some xs[i] := List.getElem?_eq_getElem hlt
        obtain ⟨d, hd, rd⟩ := hr.get' hxi
        refine .inr ⟨⟨xs, _, hq, hxi⟩, fun σ3 H3 => ∃ ω3 δ3, I (i + 1) ω3 δ3 ∧ StOk X.K ω3 δ3 σ3 H3 ∧ Kp (dom ω1) H1 (dom ω3) H3, fun σ3 H3 p => ⟨xs.length - (i + 1), by omega, rfl, hlt, p⟩, fun u H3 yy => ?_⟩
        obtain ⟨T, z, rfl, hT, rfl, hz⟩ := yy
        have hz2 := hz xs hq
        rw [hxi] at hz2
        cases hz2
        refine ⟨T, _, rfl, .inl (.inl upd_same), rfl, _, _, rfl, _, _, rfl, rfl, ?_⟩
        have s3 := s2.new (o := .tup [.int (i : Nat), xs[i]]) hT
        have kn := kp_new (o := .tup [.int (i : Nat), xs[i]]) s2.own hT
        have s4 := (s3.store j (c := .dat (.int (i : Int))) (Rp.int _)).store l (c := .dat d) (rd.mono (k2.trans kn))
        exact it i ω2 δ2 d hd hI _ _ _ s4 ⟨fun ω3 δ3 σ3 H3 q s3 k3 => ⟨ω3, δ3, q, s3, k2.trans (kn.trans k3)⟩, fun ω3 c v H3 q s3 k3 o3 => f.rt ω3 c v H3 q s3 (k1.trans (k2.trans (kn.trans k3))) o3, fun ω3 δ3 σ3 H3 q s3 k3 => f.nx ω3 δ3 σ3 H3 q s3 (k1.trans (k2.trans (kn.trans k3))), fun ω3 δ3 σ3 H3 q s3 k3 => ⟨ω3, δ3, q, s3, k2.trans (kn.trans k3)⟩⟩
      · have e : i = xs.length := by omega
        subst e
        rw [hr.len] at hI
        exact .inl ⟨⟨xs, hq, Nat.le_refl _⟩, f.nx ω2 δ2 σ' H' (ie ω2 δ2 hI) s2 (k1.trans k2)⟩)
/-- for x, y in zip(a tuple, a tuple), of one length -/
theorem s_forZT (j l : Nat) (hp : PassesOwn (model X.prog X.w) X.A X.env X.xe) (hc : X.calm = true) (hn : X.N.Nodup) (hm : X.mg "zip" = none)
    (h : N X ω δ a fun ω0 c0 => N X ω0 δ b fun ω1 c => ∃ ds es, c0 = .dat (.tuple ds) ∧ c = .dat (.tuple es) ∧ ds.length = es.length ∧ ∃ I : Nat → Ow → Env → Prop, I 0 ω1 δ ∧
      (∀ i ω2 δ2 d e, ds[i]? = some d → es[i]? = some e → I i ω2 δ2 → B X ω2 ((δ2.set j (some (.dat d))).set l (some (.dat e))) body { nx := I (i + 1), ct := I (i + 1), bk := E.nx, rt := E.rt }) ∧ ∀ ω2 δ2, I ds.length ω2 δ2 → E.nx ω2 δ2)
    (hg : Gl X "zip" := by rfl) (ha : starEach [a, b] X.env = (false, eval a X.env) :: starEach [b] X.env := by rfl) (ha2 : starEach [b] X.env = (false, eval b X.env) :: starEach [] X.env := by rfl) (hpl : (backTo p5 (starEach [b] X.env)).any (·.1) = false := by rfl) (hN : X.N[j]? = some x := by rfl) (hN2 : X.N[l]? = some y := by rfl)
    (hx : Loc X.env.scope x := by first | exact Or.inl rfl | exact Or.inr rfl) (hy : Loc X.env.scope y := by first | exact Or.inl rfl | exact Or.inr rfl)
    (hf : X.fn x = true ∨ X.env.scope.names.lookup x = some .local := by first | exact .inl rfl | exact .inr rfl | assumption) (hf2 : X.fn y = true ∨ X.env.scope.names.lookup y = some .local := by first | exact .inl rfl | exact .inr rfl | assumption)
    (h1 : (assignEach [.Name x p1, .Name y p2] X.env).map (·.2) = assign (.Name x p1) X.env :: (assignEach [.Name y p2] X.env).map (·.2) := by rfl) (h2 : (assignEach [.Name y p2] X.env).map (·.2) = assign (.Name y p2) X.env :: (assignEach [] X.env).map (·.2) := by rfl)
    (h3 : (assignEach [.Name x p1, .Name y p2] X.env).length = 2 := by rfl) (h4 : (assignEach [.Name x p1, .Name y p2] X.env).findIdx? (·.1) = none := by rfl)
    (hs : ∀ z, foldedSetIterable (.Call (.Name "zip" p4) [a, b] [] p5) X.env z = pure z := by intro _; rfl) : S X ω δ (.For (.Tuple [.Name x p1, .Name y p2] kk p3) (.Call (.Name "zip" p4) [a, b] [] p5) body [] pos) E := fun σ H D s f =>
  WS.of (ps_for hp hc (pi_zipA hg hm (pa_cons (WE.pe X a) (pa_cons (WE.pe X b) pa_nil ha2) ha) ha hpl) (pg_tup hc (pgs_cons (pg_name hn hN hx hf) (pgs_cons (pg_name hn hN2 hy hf2) pgs_nil h2) h1) h3 h4) (WB.pss X body) hs) (h σ H _ s fun ω0 c0 v0 H0 f0 s0 k0 o0 => f0 σ H0 _ s0 fun ω1 c v H1 ⟨ds, es, e0, e1, hlen, I, i0, it, ie⟩ s1 k1' o1 => by
    subst e0; subst e1
    have k1 := k0.trans k1'
    cases o0 with
    | @tup q xs _ hl hr =>
    cases o1 with
    | @tup q2 ys _ hl2 hr2 =>
      have hr1 := hr.mono k1'
      have hl1 := seqT k1' hl
      have ln : xs.length = ys.length := by rw [hr.len, hr2.len]; exact hlen
      refine ⟨q, q2, xs, ys, rfl, .inr ⟨sqt_hid hl1, sqt_hid hl2, ?_⟩⟩
      refine for_zipT (xs := xs) (ys := ys) ln (fun i σ' H' => ∃ ω2 δ2, I i ω2 δ2 ∧ StOk X.K ω2 δ2 σ' H' ∧ Kp (dom ω1) H1 (dom ω2) H') ⟨ω1, δ, i0, s1, Kp.refl _ _⟩ ?_ ?_ ?_
      · rintro i σ' H' ⟨ω2, δ2, _, _, k2⟩
        exact ⟨sqt_hid (seqT k2 hl1), sqt_hid (seqT k2 hl2)⟩
      · rintro i u v T σ' H' hu hv ⟨ω2, δ2, hI, s2, k2⟩ hT
        obtain ⟨d, hd, rd⟩ := hr1.get' hu
        obtain ⟨e, he, re⟩ := hr2.get' hv
        refine ⟨T, _, rfl, .inl (.inl upd_same), rfl, _, _, rfl, _, _, rfl, rfl, ?_⟩
        have s3 := s2.new (o := .tup [u, v]) hT
        have kn := kp_new (o := .tup [u, v]) s2.own hT
        have s4 := (s3.store j (c := .dat d) (rd.mono (k2.trans kn))).store l (c := .dat e) (re.mono (k2.trans kn))
        exact it i ω2 δ2 d e hd he hI _ _ _ s4 ⟨fun ω3 δ3 σ3 H3 q s3 k3 => ⟨ω3, δ3, q, s3, k2.trans (kn.trans k3)⟩, fun ω3 c v H3 q s3 k3 o3 => f.rt ω3 c v H3 q s3 (k1.trans (k2.trans (kn.trans k3))) o3, fun ω3 δ3 σ3 H3 q s3 k3 => f.nx ω3 δ3 σ3 H3 q s3 (k1.trans (k2.trans (kn.trans k3))), fun ω3 δ3 σ3 H3 q s3 k3 => ⟨ω3, δ3, q, s3, k2.trans (kn.trans k3)⟩⟩
      · rintro σ' H' ⟨ω2, δ2, hI, s2, k2⟩
        rw [hr.len] at hI
        exact f.nx ω2 δ2 σ' H' (ie ω2 δ2 hI) s2 (k1.trans k2))
/-- max(a, b) of two ints -/
theorem n_max2 (hc : X.calm = true) (hm : X.mg "max" = none) (h : N X ω δ a fun ω1 c1 => N X ω1 δ b fun ω2 c2 => ∃ i j : Int, c1 = .dat (.int i) ∧ c2 = .dat (.int j) ∧ Φ ω2 (.dat (.int (if j > i then j else i)))) (hg : Gl X "max" := by rfl)
    (he : starEach [a, b] X.env = (false, eval a X.env) :: starEach [b] X.env := by rfl) (he2 : starEach [b] X.env = (false, eval b X.env) :: starEach [] X.env := by rfl) (hpl : (backTo pos (starEach [b] X.env)).any (·.1) = false := by rfl) : N X ω δ (.Call (.Name "max" p1) [a, b] [] pos) Φ :=
  n_callB (call_max2 hc) hm (na_cons (h.imp fun ω1 c1 h1 => na_cons (h1.imp fun ω2 c2 ⟨i, j, e1, e2, f⟩ => na_nil fun vs σ H Q s o q => by
    subst e1; subst e2
    obtain ⟨v, w, rfl, ov, ow⟩ := cells2 o
    cases int_of ov
    cases int_of ow
    exact ⟨i, j, rfl, q ω2 _ _ H f s (Kp.refl _ _) (Rp.int _)⟩) he2) he) hg (he := he) (hpl := hpl)
theorem b_dropE {sts : List Stmt} (h : B X ω δ sts { E with nx := fun ω' δ' => ∃ p P ω0, ω' = (p, P) :: ω0 ∧ E.nx ω0 δ' }) : B X ω δ sts E := fun σ H D s f => h σ H D s ⟨fun ω' δ' σ' H' ⟨p, P, ω0, e, q⟩ s' k => by
  subst e
  exact f.nx ω0 δ' σ' H' q s'.drop (k.trans (kp_drop (P := P))), f.rt, f.bk, f.ct⟩
/-- a + b, lists: a new list of one's own -/
theorem n_catO (h : N X ω δ a fun ω1 c1 => N X ω1 δ b fun ω2 c2 => ∃ d1 d2, c1 = .dat (.list d1) ∧ c2 = .dat (.list d2) ∧ d1.length + d2.length ≤ 100000 ∧ ∀ p, Φ ((p, lstP (d1 ++ d2)) :: ω2) (.raw (.ref p))) : N X ω δ (.BinOp a .Add b pos) Φ :=
  n_bop op_cat (h.imp fun _ _ h1 => h1.imp fun ω2 _ ⟨d1, d2, e1, e2, z, f⟩ x y σ H Q s o1 o2 q => by
    subst e1; subst e2
    cases o1 with
    | @lst a1 xs _ hl1 hr1 =>
      cases o2 with
      | @lst a2 ys _ hl2 hr2 =>
        refine ⟨_, _, _, _, rfl, rfl, (hid_some hl1).2, (hid_some hl2).2, by rw [hr1.len, hr2.len]; exact Nat.le_trans z (by decide), fun p hp => ?_⟩
        have ho : (lstP (d1 ++ d2)).ok X.K (hid (dom ω2) H) (.lst (xs ++ ys)) := ⟨_, rfl, hr1.append hr2⟩
        exact q _ _ _ _ (f p) (s.cons hp ho) (s.own.cons hp ho).2 rfl)
theorem nt_notNR {Ψ : Ow → Bool → Prop} (h : N X ω δ a fun ω1 c1 => ∃ p, c1 = .raw (.ref p) ∧ Ψ ω1 true) {j q2} : NT X ω δ (.Compare a [.IsNot] [.Constant .none j q2] pos) Ψ := fun σ H Q s q =>
  WT.of (pt_cmp (pc_notN (WE.pe X a))) (h σ H _ s fun ω1 c v H1 ⟨p, e1, f1⟩ s1 k1 o1 => by
    subst e1
    cases o1
    exact ⟨true, rfl, q ω1 _ H1 f1 s1 k1⟩)
/-- list(range(a, b)) -/
def rg2D (lo hi : Int) : List PyData := (List.range (hi - lo).toNat).map fun i => .int (lo + (i : Nat))
theorem rg2_rp {K : PySem.W.Frag} {H : Hp} (lo hi : Int) : RpA K H (rgV lo hi) (rg2D lo hi) := by
  unfold rgV rg2D
  have go : ∀ l : List Nat, RpA K H (l.map fun i => V.int (lo + (i : Nat))) (l.map fun i => PyData.int (lo + (i : Nat))) := by
    intro l
    induction l with
    | nil => exact .nil
    | cons x r ih => exact .cons (.int _) ih
  exact go _
theorem n_listRg2 (hc : X.calm = true) (hm : X.mg "list" = none) (hm2 : X.mg "range" = none) (h : N X ω δ a fun ω0 c0 => N X ω0 δ b fun ω1 c => ∃ lo hi : Int, c0 = .dat (.int lo) ∧ c = .dat (.int hi) ∧ -1000000 ≤ lo ∧ lo ≤ 1000000 ∧ -1000000 ≤ hi ∧ hi ≤ 1000000 ∧ Φ ω1 (.dat (.list (rg2D lo hi)))) (hg : Gl X "list" := by rfl) (hg2 : Gl X "range" := by rfl)
    (na : starEach [.Call (.Name "range" p2) [a, b] [] p3] X.env = (false, eval (.Call (.Name "range" p2) [a, b] [] p3) X.env) :: starEach [] X.env := by rfl) (na2 : starEach [a, b] X.env = (false, eval a X.env) :: starEach [b] X.env := by rfl) (na3 : starEach [b] X.env = (false, eval b X.env) :: starEach [] X.env := by rfl)
    (hpl : (backTo p3 (starEach [b] X.env)).any (·.1) = false := by rfl) : N X ω δ (.Call (.Name "list" p1) [.Call (.Name "range" p2) [a, b] [] p3] [] pos) Φ :=
  n_lift (pe_listRg hc hg hm (prg_2 hg2 hm2 (WE.pe X a) (WE.pe X b) na2 na3 hpl) na) fun σ H Q s q => h σ H _ s fun ω0 c0 v0 H0 f0 s0 k0 o0 => f0 σ H0 _ s0 fun ω1 c v H1 ⟨lo, hi, e0, e1, a0, a1, a2, a3, f⟩ s1 k1 o1 => by
    subst e0; subst e1
    cases int_of o0; cases int_of o1
    exact ⟨lo, hi, rfl, rfl, ⟨by omega, by omega, by omega, by omega, by omega⟩, fun p hp => q ω1 _ _ _ f (s1.new hp) ((k0.trans k1).trans (kp_new s1.own hp)) (new_lst s1.own hp (rg2_rp lo hi))⟩
/-- [elt for x in range(lo, hi)] -/
theorem t_lcR2 (j : Nat)
    (h : N X ω δ a fun ω0 c0 => N X ω0 δ b fun ω1 c => ∃ lo n, c0 = .dat (.int lo) ∧ c = .dat (.int n) ∧ -1000000 ≤ lo ∧ lo ≤ 1000000 ∧ -1000000 ≤ n ∧ n ≤ 1000000 ∧ ∃ J : Nat → Ow → List PyData → Prop, J 0 ω1 [] ∧
      (∀ i ω2 acc D, i < (n - lo).toNat → J i ω2 acc → BlkF X scope fun Y => N Y ((D, lstP acc) :: ω2) ((δ.set j none).set j (some (.dat (.int (lo + (i : Int)))))) elt fun ω3 c => ∃ d, c = .dat d ∧ acc.length < 100000 ∧ ∃ ω4, ω3 = (D, lstP acc) :: ω4 ∧ J (i + 1) ω4 (acc ++ [d])) ∧
      ∀ ω2 acc, J (n - lo).toNat ω2 acc → Φ ω2 (.dat (.list acc))) {σ : St} {H : Hp} {Q : VK} (s : StOk X.K ω δ σ H) (q : ∀ ω' c v H', Φ ω' c → StOk X.K ω' δ σ H' → Kp (dom ω) H (dom ω') H' → CellOk X.K (dom ω') H' v c → Q v H') :
    tLc (iRng2 (tCons (WE X a) (tCons (WE X b) tNil))) (gName j) tYes (fun σ H Q => BlkF X scope fun Y => WE Y elt σ H Q) [j] σ H Q :=
  h σ H _ s fun ω0 c0 v0 H0 f0 s0 k0 o0 => f0 σ H0 _ s0 fun ω1 c v H1 ⟨lo, n, e0, e1, y1, y2, z1, z2, J, j0, jt, je⟩ s1 k1' o1 => by
    subst e0; subst e1
    have k1 := k0.trans k1'
    cases int_of o0; cases int_of o1
    refine ⟨lo, n, rfl, by omega, fun D hD => ?_⟩
    have hD0 : (lstP []).ok X.K (hid (dom ω1) H1) (.lst []) := ⟨[], rfl, .nil⟩
    refine lc_range (lo := lo) (n := (n - lo).toNat) (g := gName j) (tt := tYes) (te := fun σ H Q => BlkF X scope fun Y => WE Y elt σ H Q) (vs := [j]) (σ := σ) (H1 := H1) (D := D) (Qd := fun H => Q (.ref D) H) (fun i H' => ∃ ω2 acc, J i ω2 acc ∧ StOk X.K ((D, lstP acc) :: ω2) δ σ H' ∧ Kp (dom ω1) H1 (D :: dom ω2) H') ⟨ω1, [], j0, s1.cons hD hD0, (s1.own.cons hD hD0).2⟩ ?_ ?_
    · rintro i H' hi ⟨ω2, acc, hJ, s2, k2⟩
      refine ⟨set_wipe, fun s3 H3 C cl fp => ?_⟩
      have sB : StOk X.K ((D, lstP acc) :: ω2) ((δ.set j none).set j (some (.dat (.int (lo + (i : Int)))))) ((wipe σ [j]).set j (some (.int (lo + (i : Int))))) H' := ⟨(s2.env.wipe j).set (c := .dat (.int (lo + i))) (Rp.int _) j, s2.own⟩
      refine jt i ω2 acc D hi hJ s3 H3 C cl fp _ _ _ sB fun ω3 c v H4 ⟨d, e1, hz, ω4, e2, hJ'⟩ s4 k4 o4 => ?_
      subst e1; subst e2
      obtain ⟨u, m1, vs, rfl, m2⟩ := s4.own.at_ D _ List.mem_cons_self
      have ho : (lstP (acc ++ [d])).ok X.K (hid (dom ((D, lstP acc) :: ω4)) H4) (.lst (vs ++ [v])) := ⟨_, rfl, m2.append (.cons o4 .nil)⟩
      refine ⟨vs, m1, by rw [m2.len]; exact Nat.lt_of_lt_of_le hz (by decide), ω4, _, hJ', ?_, (k2.trans k4).trans (kp_upd List.mem_cons_self)⟩
      have oo := s4.own.put (i := 0) (p := D) (P := lstP acc) rfl ho
      exact ⟨s2.env.mono (k4.trans (kp_upd List.mem_cons_self)), oo⟩
    · rintro H' ⟨ω2, acc, hJ, s2, k2⟩
      exact q ω2 _ _ H' (je ω2 acc hJ) s2.drop (k1.trans (k2.trans (kp_drop (P := lstP acc)))) (own_lst s2.own)
theorem n_lcR2 (j : Nat) (hc : X.calm = true) (hn : X.N.Nodup) (hm : X.mg "range" = none) (hb : BlkOk X.N X.env.scope scope [(x, j)])
    (h : N X ω δ a fun ω0 c0 => N X ω0 δ b fun ω1 c => ∃ lo n, c0 = .dat (.int lo) ∧ c = .dat (.int n) ∧ -1000000 ≤ lo ∧ lo ≤ 1000000 ∧ -1000000 ≤ n ∧ n ≤ 1000000 ∧ ∃ J : Nat → Ow → List PyData → Prop, J 0 ω1 [] ∧
      (∀ i ω2 acc D, i < (n - lo).toNat → J i ω2 acc → BlkF X scope fun Y => N Y ((D, lstP acc) :: ω2) ((δ.set j none).set j (some (.dat (.int (lo + (i : Int)))))) elt fun ω3 c => ∃ d, c = .dat d ∧ acc.length < 100000 ∧ ∃ ω4, ω3 = (D, lstP acc) :: ω4 ∧ J (i + 1) ω4 (acc ++ [d])) ∧
      ∀ ω2 acc, J (n - lo).toNat ω2 acc → Φ ω2 (.dat (.list acc)))
    (hgt : BlkF X scope fun Y => PG Y (.Name x p1) (gName j)) (hg : Gl X "range" := by rfl) (ha : starEach [a, b] X.env = [(false, eval a X.env), (false, eval b X.env)] := by rfl) (ha2 : starEach [b] X.env = [(false, eval b X.env)] := by rfl) (ha3 : starEach [a, b] X.env = (false, eval a X.env) :: starEach [b] X.env := by rfl)
    (hs : ∀ y, foldedSetIterable (.Call (.Name "range" p2) [a, b] [] p3) X.env y = pure y := by intro _; rfl) : N X ω δ (.ListComp elt [{ target := .Name x p1, iter := .Call (.Name "range" p2) [a, b] [] p3, ifs := [], is_async := 0 }] scope pos) Φ :=
  n_lift (pe_lc (own := [(x, j)]) (g := gName j) (te := fun σ H Q => BlkF X scope fun Y => WE Y elt σ H Q) hc hn (pi_range2 hg hm (pa_cons (WE.pe X a) (pa_cons (WE.pe X b) pa_nil ha2) ha3) ha ha2) hb hgt (fun _ _ _ _ _ => pts_nil) (fun s H C cl fp => ⟨fun pins s' σ' H' Q I q => q s H C cl fp pins s' I⟩) hs) fun σ H Q s q => t_lcR2 j h s q
/-- [elt for x in a list], a list of one's own -/
theorem t_lcLw (j : Nat)
    (h : N X ω δ iter fun ω1 c => ∃ ds, c = .dat (.list ds) ∧ ∃ J : Nat → Ow → List PyData → Prop, J 0 ω1 [] ∧
      (∀ i ω2 acc D d0, ds[i]? = some d0 → J i ω2 acc → BlkF X scope fun Y => N Y ((D, lstP acc) :: ω2) ((δ.set j none).set j (some (.dat d0))) elt fun ω3 c => ∃ d, c = .dat d ∧ acc.length < 100000 ∧ ∃ ω4, ω3 = (D, lstP acc) :: ω4 ∧ J (i + 1) ω4 (acc ++ [d])) ∧
      ∀ ω2 acc, J ds.length ω2 acc → ∀ D, Φ ((D, lstP acc) :: ω2) (.raw (.ref D))) {σ : St} {H : Hp} {Q : VK} (s : StOk X.K ω δ σ H) (q : ∀ ω' c v H', Φ ω' c → StOk X.K ω' δ σ H' → Kp (dom ω) H (dom ω') H' → CellOk X.K (dom ω') H' v c → Q v H') :
    tLc (iList X.K (WE X iter)) (gName j) tYes (fun σ H Q => BlkF X scope fun Y => WE Y elt σ H Q) [j] σ H Q :=
  h σ H _ s fun ω1 c v H1 ⟨ds, e1, J, j0, jt, je⟩ s1 k1 o1 => by
    subst e1
    cases o1 with
    | @lst l xs _ hl hr =>
      refine ⟨l, rfl, ⟨xs, SqL.of (hid_some hl).2⟩, fun D hD => ?_⟩
      have hD0 : (lstP []).ok X.K (hid (dom ω1) H1) (.lst []) := ⟨[], rfl, .nil⟩
      refine lc_list (K := X.K) (a := l) (xs := xs) (g := gName j) (tt := tYes) (te := fun σ H Q => BlkF X scope fun Y => WE Y elt σ H Q) (vs := [j]) (σ := σ) (H1 := H1) (D := D) (Qd := fun H => Q (.ref D) H) (fun i H' => ∃ ω2 acc, J i ω2 acc ∧ StOk X.K ((D, lstP acc) :: ω2) δ σ H' ∧ Kp (dom ω1) H1 (D :: dom ω2) H') ⟨ω1, [], j0, s1.cons hD hD0, (s1.own.cons hD hD0).2⟩ ?_ ?_ ?_
      · rintro i H' _ ⟨ω2, acc, _, _, k2⟩
        exact SqL.of (hid_some (k2 _ _ hl)).2
      · rintro i y H' hy ⟨ω2, acc, hJ, s2, k2⟩
        refine ⟨set_wipe, fun s3 H3 C cl fp => ?_⟩
        obtain ⟨d0, hd0, rd0⟩ := hr.get' hy
        have sB : StOk X.K ((D, lstP acc) :: ω2) ((δ.set j none).set j (some (.dat d0))) ((wipe σ [j]).set j (some y)) H' := ⟨(s2.env.wipe j).set (c := .dat d0) (rd0.mono k2) j, s2.own⟩
        refine jt i ω2 acc D d0 hd0 hJ s3 H3 C cl fp _ _ _ sB fun ω3 c v H4 ⟨d, e1, hz, ω4, e2, hJ'⟩ s4 k4 o4 => ?_
        subst e1; subst e2
        obtain ⟨u, m1, vs, rfl, m2⟩ := s4.own.at_ D _ List.mem_cons_self
        have ho : (lstP (acc ++ [d])).ok X.K (hid (dom ((D, lstP acc) :: ω4)) H4) (.lst (vs ++ [v])) := ⟨_, rfl, m2.append (.cons o4 .nil)⟩
        refine ⟨vs, m1, by rw [m2.len]; exact Nat.lt_of_lt_of_le hz (by decide), ω4, _, hJ', ?_, (k2.trans k4).trans (kp_upd List.mem_cons_self)⟩
        have oo := s4.own.put (i := 0) (p := D) (P := lstP acc) rfl ho
        exact ⟨s2.env.mono (k4.trans (kp_upd List.mem_cons_self)), oo⟩
      · rintro H' ⟨ω2, acc, hJ, s2, k2⟩
        rw [hr.len] at hJ
        exact q _ _ _ H' (je ω2 acc hJ D) s2 (k1.trans k2) rfl
theorem n_lcLw (j : Nat) (hc : X.calm = true) (hn : X.N.Nodup) (hb : BlkOk X.N X.env.scope scope [(x, j)])
    (h : N X ω δ iter fun ω1 c => ∃ ds, c = .dat (.list ds) ∧ ∃ J : Nat → Ow → List PyData → Prop, J 0 ω1 [] ∧
      (∀ i ω2 acc D d0, ds[i]? = some d0 → J i ω2 acc → BlkF X scope fun Y => N Y ((D, lstP acc) :: ω2) ((δ.set j none).set j (some (.dat d0))) elt fun ω3 c => ∃ d, c = .dat d ∧ acc.length < 100000 ∧ ∃ ω4, ω3 = (D, lstP acc) :: ω4 ∧ J (i + 1) ω4 (acc ++ [d])) ∧
      ∀ ω2 acc, J ds.length ω2 acc → ∀ D, Φ ((D, lstP acc) :: ω2) (.raw (.ref D)))
    (hgt : BlkF X scope fun Y => PG Y (.Name x p1) (gName j)) (hs : ∀ y, foldedSetIterable iter X.env y = pure y := by intro _; rfl) : N X ω δ (.ListComp elt [{ target := .Name x p1, iter := iter, ifs := [], is_async := 0 }] scope pos) Φ :=
  n_lift (pe_lc (own := [(x, j)]) (g := gName j) (te := fun σ H Q => BlkF X scope fun Y => WE Y elt σ H Q) hc hn (pi_list (WE.pe X iter)) hb hgt (fun _ _ _ _ _ => pts_nil) (fun s H C cl fp => ⟨fun pins s' σ' H' Q I q => q s H C cl fp pins s' I⟩) hs) fun σ H Q s q => t_lcLw j h s q
end
end DL

/-! ## several except clauses, each with a name or without -/
namespace TA
open PySem PySem.Spec PyProof.Rows L2
abbrev Su := Addr → Value → Option Addr → TS
/-- a clause: the class it names, the slot of its name (if it has one), what its suite reads -/
structure Clz where
  cl : Value
  slot : Option Nat
  su : Su
def offD (D : Ends) : Option Nat → Ends
  | none => D
  | some i => { nx := fun σ H => D.nx (σ.set i none) H, rt := D.rt, bk := fun σ H => D.bk (σ.set i none) H, ct := fun σ H => D.ct (σ.set i none) H }
def onS (σ : L2.St) (a : Addr) : Option Nat → L2.St
  | none => σ
  | some i => σ.set i (some (.ref a))
/-- what the clauses wish of an exception, the first one first; one of them must take it -/
def wish (K : PySem.W.Frag) (D : Ends) : List Clz → WX
  | [] => fun _ _ _ _ => False
  | z :: r => fun cls d σ H => ∃ b, PySem.W.exmOne K cls z.cl = some b ∧ (b = true → ∀ a, H a = none → z.su a cls d (offD D z.slot) (onS σ a z.slot) H) ∧ (b = false → wish K D r cls d σ H)
inductive HOkA (X : Cx) : List ExceptHandler → List Clz → Prop
  | nil : HOkA X [] []
  | bare {x : Str} {c : Value} {su : Su} {b₀ : Stmt} {body : List Stmt} {q q' : Pos} {hds : List ExceptHandler} {l : List Clz} (hc : Names X x c)
      (hsu : ∀ (a : Addr) (ob : Obj) (cls : Value) (d : Option Addr) (pn : List (Addr × Obj)), Zc cls d ob → (∃ vs, ob.data = .fields vs) → PSs (X.suite a ((a, ob) :: pn)) (b₀ :: body) (su a cls d)) (r : HOkA X hds l) :
      HOkA X (.ExceptHandler (some (.Name x q)) none (b₀ :: body) q' :: hds) (⟨c, none, su⟩ :: l)
  | named {x n : Str} {c : Value} {i : Nat} {su : Su} {b₀ : Stmt} {body : List Stmt} {q q' : Pos} {hds : List ExceptHandler} {l : List Clz} (hc : Names X x c) (hN : X.N.Nodup) (hi : X.N[i]? = some n) (hln : X.env.kindOf n = some .local)
      (hsu : ∀ (a : Addr) (ob : Obj) (cls : Value) (d : Option Addr) (pn : List (Addr × Obj)), Zc cls d ob → (∃ vs, ob.data = .fields vs) → PSs (X.suite a ((a, ob) :: pn)) (b₀ :: body) (su a cls d)) (r : HOkA X hds l) :
      HOkA X (.ExceptHandler (some (.Name x q)) (some n) (b₀ :: body) q' :: hds) (⟨c, some i, su⟩ :: l)
section
variable {X : Cx} {body : List Stmt} {h₀ : ExceptHandler} {hds : List ExceptHandler} {l : List Clz} {pos : Pos} {tb : WX → TS}
theorem ps_tryA (hstk : X.stack = X.env :: X.outer) (hfrm : X.env.frame = some X.env.locals)
    (hbody : ∀ (W : WX) (pn : List (Addr × Obj)) (xe : Value → Shared → Prop), Takes (X.tr pn xe) W → PassesOwn (model X.prog X.w) X.A X.env xe → PSs (X.tr pn xe) body (tb W))
    (hhd : HOkA X (h₀ :: hds) l) : PS X (.Try body (h₀ :: hds) [] [] pos) (fun D σ H => tb (wish X.K D l) D σ H) := by
  constructor
  intro pins s σ H D I want
  have okX := I.ok
  have frA : X.A.frames = some (X.env :: X.outer) := by rw [okX.frames, hstk]
  refine wpAny_Try_except (wpAny_mono ((hbody (wish X.K D l) (X.pn ++ pins) (fun e s₁ => wpAny (model X.prog X.w) X.A (noteFrame e X.env) (fun _ s₂ => wpAny (model X.prog X.w) X.A (setFlight e none) (fun _ s₃ => wpAny (model X.prog X.w) X.A (handleBy e X.env (h₀ :: hds)) (SP X pins D) X.xe s₃) X.xe s₂) X.xe s₁) ?_ PassesOwn.looking).run [] s σ H D (I.toTry _) want) ?_ (fun _ _ z => z))
  · intro u s' air
    obtain ⟨a, B, sI, pins', σ', H', cls, d, rfl, J', ground, up, sky, hna, hos, hag, wsh⟩ := air
    have J : Inv X pins σ' H' sI := J'.ofTry okX
    rw [show (X.tr (X.pn ++ pins) _).stack = X.env :: X.outer from hstk] at sky
    show wpAny _ X.A (noteFrame (Value.ref a) X.env) _ _ _
    refine Sky.land Zc.steady frA hfrm sky fun g1 fly1 up1 => ?_
    have J1 : Inv X pins σ' H' { s' with heap := g1 } := J.landed ground fly1.1 (up.trans up1) hos hag
    obtain ⟨ob1, vs1, at1, z1, dat1⟩ := fly1.there
    have apart : a ∉ frs (X.env :: X.outer) := fun hm => by
      obtain ⟨_, o', e', hnf⟩ := fly1.2.2.1.mem hm
      rw [at1] at e'
      cases e'
      exact hnf _ dat1
    have a1 : a ≠ X.env.locals := fun z => apart (List.mem_filterMap.mpr ⟨X.env, List.mem_cons_self, by rw [hfrm, z]⟩)
    have a2 : a ∉ X.fs := fun hm => by
      obtain ⟨en, hen, qe⟩ := List.mem_filterMap.mp hm
      exact apart (List.mem_filterMap.mpr ⟨en, List.mem_cons_of_mem _ hen, qe⟩)
    have Sx := J1.suite at1 dat1 hna a1 a2
    have tst : ∀ {x : Str} {c : Value} {q : Pos} {Q E : Value → Shared → Prop}, Names X x c → Q c { s' with heap := g1 } → wpAny (model X.prog X.w) (X.A.mark (some (.ref a))) (eval (.Name x q) X.env) Q E { s' with heap := g1 } := by
      intro x c q Q E hc hq
      rcases hc with ⟨c1, c2, c3 | ⟨c3, c4, c5⟩⟩
      · exact ld_glob (X := X.suite a ((a, ob1) :: (X.pn ++ pins))) Sx c1 c3 hq c2
      · exact ld_blt (X := X.suite a ((a, ob1) :: (X.pn ++ pins))) Sx c1 c3 c4 hq c5 c2
    have cls_at : PySem.W.Looks (model X.prog X.w) g1 (typeOf (.ref a)) cls := fun A Q E s k q => wpAny_typeOf_ref (k _ _ at1) (by rw [z1.1]; exact q)
    have walk : ∀ {hs' : List ExceptHandler} {l' : List Clz}, HOkA X hs' l' → wish X.K D l' cls d σ' H' → wpAny (model X.prog X.w) X.A (handleBy (.ref a) X.env hs') (SP X pins D) X.xe { s' with heap := g1 } := by
      intro hs' l' hk
      induction hk with
      | nil => intro w; exact w.elim
      | @bare x c su b₀ body q q' hds2 l2 hc hsu _ ih =>
        rintro ⟨b, hb, yes, no⟩
        refine wpAny_handleBy_cons (codeAny_handlers_test (tst hc ((PySem.W.exm_one (M := model X.prog X.w) J1.kIn cls_at hb).here ?_))) (by intro z; cases z)
        cases b with
        | false => exact ih (no rfl)
        | true =>
          refine codeAny_handlers_suite (HandSPX.lands_againZ fly1 fun g2 fly2 up2 => ?_)
          have J2 : Inv X pins σ' H' { s' with heap := g2 } := J.landed ground fly2.1 ((up.trans up1).trans up2) hos hag
          obtain ⟨ob2, vs2, at2, z2, dat2⟩ := fly2.there
          refine wpAny_mono ((hsu a ob2 cls d (X.pn ++ pins) z2 ⟨_, dat2⟩).run [] _ _ H' _ (J2.suite at2 dat2 hna a1 a2) (yes rfl a hna)) (fun fl s6 hsp => ?_) (fun _ _ z => z.elim)
          cases fl with
          | next => obtain ⟨s6', H6, K6, q6⟩ := hsp; exact ⟨_, _, K6.unsuite okX, q6⟩
          | brk => obtain ⟨s6', H6, K6, q6⟩ := hsp; exact ⟨_, _, K6.unsuite okX, q6⟩
          | cont => obtain ⟨s6', H6, K6, q6⟩ := hsp; exact ⟨_, _, K6.unsuite okX, q6⟩
          | ret u => obtain ⟨v6, s6', H6, K6, r6, q6⟩ := hsp; exact ⟨_, _, _, K6.unsuite okX, r6, q6⟩
      | @named x n c i su b₀ body q q' hds2 l2 hc hN hi hln hsu _ ih =>
        rintro ⟨b, hb, yes, no⟩
        refine wpAny_handleBy_cons (codeAny_handlers_test (tst hc ((PySem.W.exm_one (M := model X.prog X.w) J1.kIn cls_at hb).here ?_))) (by intro z; cases z)
        cases b with
        | false => exact ih (no rfl)
        | true =>
          refine codeAny_handlers_suite_as (HandSPX.lands_againZ fly1 fun g2 fly2 up2 => ?_)
          have J2 : Inv X pins σ' H' { s' with heap := g2 } := J.landed ground fly2.1 ((up.trans up1).trans up2) hos hag
          obtain ⟨ob2, vs2, at2, z2, dat2⟩ := fly2.there
          refine store_ok (X := X.suite a ((a, ob2) :: (X.pn ++ pins))) (v := .ref a) (J2.suite at2 dat2 hna a1 a2) hN hi (.inl hln) rfl (fun s5 S5 => ?_) (.inr hln)
          refine wpAny_mono ((hsu a ob2 cls d (X.pn ++ pins) z2 ⟨_, dat2⟩).run [] s5 _ H' _ S5 (yes rfl a hna)) (fun fl s6 hsp => ?_) (fun _ _ z => z.elim)
          have fin : ∀ {σ6 : L2.St} {H6 : Hp} {R : Shared → Prop}, Inv (X.suite a ((a, ob2) :: (X.pn ++ pins))) [] σ6 H6 s6 → (∀ s7, Inv X pins (σ6.set i none) H6 s7 → R s7) → wpAny (model X.prog X.w) X.A (do bindName X.env n .none; unbindBehindTheSuite X.env n q') (fun _ s7 => R s7) X.xe s6 := fun K6 hq => gone_ok (K6.unsuite okX) hN hi hln hq
          cases fl with
          | next => obtain ⟨s6', H6, K6, q6⟩ := hsp; exact fin K6 fun s7 J7 => ⟨_, _, J7, q6⟩
          | brk => obtain ⟨s6', H6, K6, q6⟩ := hsp; exact fin K6 fun s7 J7 => ⟨_, _, J7, q6⟩
          | cont => obtain ⟨s6', H6, K6, q6⟩ := hsp; exact fin K6 fun s7 J7 => ⟨_, _, J7, q6⟩
          | ret u => obtain ⟨v6, s6', H6, K6, r6, q6⟩ := hsp; exact fin K6 fun s7 J7 => ⟨_, _, _, J7, r6, q6⟩
    exact walk hhd wsh
  · intro fl s1 hsp
    cases fl with
    | next => obtain ⟨s6, H6, J6, q6⟩ := hsp; exact wpAny_execs_nil ⟨s6, H6, J6.ofTry okX, q6⟩
    | brk => obtain ⟨s6, H6, J6, q6⟩ := hsp; exact ⟨s6, H6, J6.ofTry okX, q6⟩
    | cont => obtain ⟨s6, H6, J6, q6⟩ := hsp; exact ⟨s6, H6, J6.ofTry okX, q6⟩
    | ret u => obtain ⟨v6, s6, H6, J6, r6, q6⟩ := hsp; exact ⟨v6, s6, H6, J6.ofTry okX, r6, q6⟩
end
end TA

namespace DL
open PySem PySem.Spec L2
/-! ## what may be raised -/
/-- of an exception: what is owned then (its own dict in front), the slots, its class, its dict -/
abbrev ExP := Ow → Env → Addr → Addr → Prop
/-- the dict of an exception -/
def xdP (fs : List (PyData × PyData)) : OwnP := ⟨fun K H o => ∃ vs, o = .xd vs ∧ RpF K H vs fs, fun K H H' o e ⟨vs, h1, h2⟩ => ⟨vs, h1, h2.mono e⟩⟩
def XW (K : PySem.W.Frag) (ω : Ow) (H : Hp) (Ψ : ExP) : WX := fun cls d σ' H' => ∃ ω' δ' C dd, cls = .ref C ∧ d = some dd ∧ Ψ ω' δ' C dd ∧ StOk K ω' δ' σ' H' ∧ Kp (dom ω) H (dom ω') H'
def XT (X : Cx) (ω : Ow) (H : Hp) (Ψ : ExP) : Prop := Takes X (XW X.K ω H Ψ)
section
variable {X : Cx} {ω ω1 : Ow} {δ : Env} {H H1 : Hp} {Ψ Ψ' : ExP} {e a o : Expr} {es : List Expr} {st : Stmt} {rest sts body orelse : List Stmt} {E : En} {Φ : Ow → Cell → Prop} {ΦA : Ow → List Cell → Prop} {c : Expr} {pos p1 p2 p3 : Pos} {x f m cx : Str} {j k : Nat} {ps : List Str}
theorem XT.after (t : XT X ω H Ψ) (k : Kp (dom ω) H (dom ω1) H1) : XT X ω1 H1 Ψ := t.imp fun _ _ _ _ ⟨ω', δ', C, dd, a1, a2, a3, a4, a5⟩ => ⟨ω', δ', C, dd, a1, a2, a3, a4, k.trans a5⟩
theorem XT.weak (t : XT X ω H Ψ) (h : ∀ ω' δ' C dd, Ψ' ω' δ' C dd → Ψ ω' δ' C dd) : XT X ω H Ψ' := t.imp fun _ _ _ _ ⟨ω', δ', C, dd, a1, a2, a3, a4, a5⟩ => ⟨ω', δ', C, dd, a1, a2, h _ _ _ _ a3, a4, a5⟩
def NX (X : Cx) (ω : Ow) (δ : Env) (e : Expr) (Φ : Ow → Cell → Prop) (Ψ : ExP) : Prop :=
  ∀ σ H Q, StOk X.K ω δ σ H → XT X ω H Ψ → (∀ ω' c v H', Φ ω' c → StOk X.K ω' δ σ H' → Kp (dom ω) H (dom ω') H' → CellOk X.K (dom ω') H' v c → Q v H') → WE X e σ H Q
def NAX (X : Cx) (ω : Ow) (δ : Env) (es : List Expr) (Φ : Ow → List Cell → Prop) (Ψ : ExP) : Prop :=
  ∀ σ H Q, StOk X.K ω δ σ H → XT X ω H Ψ → (∀ ω' cs vs H', Φ ω' cs → StOk X.K ω' δ σ H' → Kp (dom ω) H (dom ω') H' → Cells X.K (dom ω') H' vs cs → Q vs H') → WA X es σ H Q
def SX (X : Cx) (ω : Ow) (δ : Env) (st : Stmt) (E : En) (Ψ : ExP) : Prop := ∀ σ H D, StOk X.K ω δ σ H → XT X ω H Ψ → Fits X.K ω H E D → WS X st D σ H
def BX (X : Cx) (ω : Ow) (δ : Env) (st : List Stmt) (E : En) (Ψ : ExP) : Prop := ∀ σ H D, StOk X.K ω δ σ H → XT X ω H Ψ → Fits X.K ω H E D → WB X st D σ H
theorem nx_of (h : N X ω δ e Φ) : NX X ω δ e Φ Ψ := fun σ H Q s _ q => h σ H Q s q
theorem nax_of (h : NA X ω δ es ΦA) : NAX X ω δ es ΦA Ψ := fun σ H Q s _ q => h σ H Q s q
theorem sx_of (h : S X ω δ st E) : SX X ω δ st E Ψ := fun σ H D s _ f => h σ H D s f
theorem bx_of (h : B X ω δ sts E) : BX X ω δ sts E Ψ := fun σ H D s _ f => h σ H D s f
theorem bx_nil (h : E.nx ω δ) : BX X ω δ [] E Ψ := bx_of (b_nil h)
theorem bx_cons (h : SX X ω δ st { E with nx := fun ω1 δ1 => BX X ω1 δ1 rest E Ψ } Ψ) : BX X ω δ (st :: rest) E Ψ := fun σ H D s t f =>
  WB.of (pss_cons (WS.ps X st) (WB.pss X rest)) (h σ H { D with nx := fun σ' H' => WB X rest D σ' H' } s t ⟨fun ω1 δ1 σ1 H1 q s1 k1 => q σ1 H1 D s1 (t.after k1) (f.after k1), f.rt, f.bk, f.ct⟩)
theorem bx_one (h : SX X ω δ st E Ψ) : BX X ω δ [st] E Ψ := fun σ H D s t f => WB.of (pss_one (WS.ps X st)) (h σ H D s t f)
theorem bx_s (h : S X ω δ st { E with nx := fun ω1 δ1 => BX X ω1 δ1 rest E Ψ }) : BX X ω δ (st :: rest) E Ψ := bx_cons (sx_of h)
theorem sx_if (h : NT X ω δ c fun ω1 k => if k = true then BX X ω1 δ body E Ψ else BX X ω1 δ orelse E Ψ) : SX X ω δ (.If c body orelse pos) E Ψ := fun σ H D s t f =>
  WS.of (ps_if (WT.pt X c) (WB.pss X body) (WB.pss X orelse)) (h σ H _ s fun ω1 k H1 q s1 k1 => by
    cases k with
    | true => exact q σ H1 D s1 (t.after k1) (f.after k1)
    | false => exact q σ H1 D s1 (t.after k1) (f.after k1))
theorem sx_ret (h : NX X ω δ e (fun ω1 c => E.rt ω1 c) Ψ) : SX X ω δ (.Return (some e) pos) E Ψ := fun σ H D s t f =>
  WS.of (ps_ret (WE.pe X e)) (h σ H _ s t fun ω1 c v H1 q s1 k1 o1 => f.rt ω1 c v H1 q s1.own k1 o1)
theorem sx_set (i : Nat) (hN : X.N.Nodup) (h : NX X ω δ e (fun ω1 c => E.nx ω1 (δ.set i (some c))) Ψ) (hi : X.N[i]? = some x := by rfl) (hx : Loc X.env.scope x := by first | exact Or.inl rfl | exact Or.inr rfl) (hs : swapsWith e (some (.Name x p2)) pos.line X.env = pure false := by rfl)
    (hf : X.fn x = true ∨ X.env.scope.names.lookup x = some .local := by first | exact .inl rfl | exact .inr rfl | assumption) : SX X ω δ (.Assign [.Name x p2] e pos) E Ψ := fun σ H D s t f =>
  WS.of (ps_set hN hi hx (WE.pe X e) hs hf) (h σ H _ s t fun ω1 c v H1 q s1 k1 o1 => f.nx ω1 _ _ H1 q (s1.store i o1) k1)
theorem sx_expr (h : NX X ω δ e (fun ω1 _ => E.nx ω1 δ) Ψ) (hs : swapsWith e none pos.line X.env = pure false := by rfl) : SX X ω δ (.Expr e pos) E Ψ := fun σ H D s t f =>
  WS.of (ps_expr (WE.pe X e) hs) (h σ H _ s t fun ω1 c v H1 q s1 k1 o1 => f.nx ω1 δ σ H1 q s1 k1)
theorem nax_cons (h : NX X ω δ e (fun ω1 c1 => NAX X ω1 δ es (fun ω2 cs => ΦA ω2 (c1 :: cs)) Ψ) Ψ) (hs : starEach (e :: es) X.env = (false, eval e X.env) :: starEach es X.env := by rfl) : NAX X ω δ (e :: es) ΦA Ψ := fun σ H Q s t q =>
  WA.of (pa_cons (WE.pe X e) (WA.pa X es) hs) (h σ H _ s t fun ω1 c1 v H1 f1 s1 k1 o1 => f1 σ H1 _ s1 (t.after k1) fun ω2 cs vs H2 f2 s2 k2 o2 => q ω2 _ _ H2 f2 s2 (k1.trans k2) (.cons (o1.mono k2) o2))
theorem nx_tupU {x1} (h : NAX X ω δ es (fun ω1 cs => ∃ ds, undat cs = some ds ∧ Nat.ble ds.length 1000 = true ∧ Φ ω1 (.dat (.tuple ds))) Ψ) : NX X ω δ (.Tuple es x1 pos) Φ Ψ := fun σ H Q s t q =>
  WE.of (pe_tup (WA.pa X es)) (h σ H _ s t fun ω1 cs vs H1 ⟨ds, e1, z, f⟩ s1 k1 o1 => by
    rw [undat_dats e1] at o1
    have r := cells_rpa o1
    refine ⟨by rw [r.len]; exact Nat.le_trans (Nat.le_of_ble_eq_true z) (by decide), fun p hp => ?_⟩
    exact q ω1 _ _ _ f (s1.new hp) (k1.trans (kp_new s1.own hp)) (new_tup s1.own hp r))
/-! ## promises of defs that may raise -/
abbrev ConX := List Cell → Ow → (Ow → Cell → Prop) → (Ow → Addr → Addr → Prop) → Prop
def spDX (K : PySem.W.Frag) (C : ConX) : Sp := fun vs H Q E => ∃ ω cs Φ Ψ, Cells K (dom ω) H vs cs ∧ OwnOk K ω H ∧ C cs ω Φ Ψ ∧ (∀ ω' c v H', Φ ω' c → OwnOk K ω' H' → Kp (dom ω) H (dom ω') H' → CellOk K (dom ω') H' v c → Q v H') ∧
  ∀ ω' A dd H', Ψ ω' A dd → OwnOk K ω' H' → Kp (dom ω) H (dom ω') H' → E (.ref A) (some dd) H'
end
section
variable {P : Program} {w : World} {K : PySem.W.Frag} {mg : Str → Option Value} {base : Heap} {cx m qual : Str} {st : Stmt} {Nm ps : List Str} {k : Nat} {C : ConX}
structure RdMX (P : Program) (w : World) (K : PySem.W.Frag) (mg : Str → Option Value) (base : Heap) (k : Nat) (cx m : Str) (ps : List Str) (C : ConX) : Prop where
  ex : ∃ f fd, FnOk P w K mg base (L2.CX P w) k f fd ps (spDX K C) ∧ Meth K (clsA mg cx) m f ∧ Binds K fd ps []
theorem okDX {x : Str} {f : Addr} {fd : FuncData} (F : Fun K x qual st f fd) (sc : FnScope Nm ps (defScope st)) (len : ∀ cs ω Φ Ψ, C cs ω Φ Ψ → cs.length = ps.length)
    (body : ∀ (X : Cx) (cdv : Value) (A : Around) (outer : List PySem.Env) (s : Shared) (H : Hp) (E : XK), X = cxOf (L2.CX P w) P w K mg base Nm qual (defScope st) f cdv A outer s H E → Room k X.A → ∀ cs ω Φ Ψ, C cs ω Φ Ψ → BX X ω (startE Nm cs) (defBody st) { nx := fun ω' _ => Φ ω' (.dat .none), rt := Φ } fun ω' _ A dd => Ψ ω' A dd) :
    FnOk P w K mg base (L2.CX P w) (k + 1) f fd ps (spDX K C) := by
  refine F.okX sc (fun vs H Q E ⟨ω, cs, Φ, Ψ, h1, _, h3, _⟩ => h1.len.trans (len _ _ _ _ h3)) fun cdv A outer s H vs Q E hr ⟨ω, cs, Φ, Ψ, h1, h2, h3, h4, h5⟩ => ?_
  refine ⟨_, WB.pss _ _, body _ cdv A outer s H E rfl hr cs ω Φ Ψ h3 (L2.start Nm vs) H _ ⟨?_, h2⟩ ?_ ⟨fun ω' δ' σ' H' q s' k' => h4 ω' _ _ H' q s'.own k' Rp.non, fun ω' c v H' q s' k' o => h4 ω' c v H' q s' k' o, fun _ _ _ _ z => z.elim, fun _ _ _ _ z => z.elim⟩⟩
  · unfold L2.start startE
    rw [h1.len]
    exact env_start _ h1
  · refine Takes.imp (takes_of (E := E) rfl rfl rfl rfl) fun cls d σ' H' ⟨ω', δ', A, dd, a1, a2, a3, a4, a5⟩ => ?_
    subst a1; subst a2
    exact h5 ω' A dd H' a3 a4.own a5
theorem rdmX (F : HasM K mg cx m qual st ps) (sc : FnScope Nm ps (defScope st)) (len : ∀ cs ω Φ Ψ, C cs ω Φ Ψ → cs.length = ps.length)
    (body : ∀ (X : Cx) (f : Addr) (cdv : Value) (A : Around) (outer : List PySem.Env) (s : Shared) (H : Hp) (E : XK), X = cxOf (L2.CX P w) P w K mg base Nm qual (defScope st) f cdv A outer s H E → Room k X.A → ∀ cs ω Φ Ψ, C cs ω Φ Ψ → BX X ω (startE Nm cs) (defBody st) { nx := fun ω' _ => Φ ω' (.dat .none), rt := Φ } fun ω' _ A dd => Ψ ω' A dd) :
    RdMX P w K mg base (k + 1) cx m ps C := by
  obtain ⟨f, fd, F, hm, hb⟩ := F.ex
  exact ⟨f, fd, okDX F sc len fun X => body X f, hm, hb⟩
end
section
variable {X : Cx} {ω : Ow} {δ : Env} {Ψ : ExP} {e o : Expr} {es : List Expr} {Φ : Ow → Cell → Prop} {pos p1 : Pos} {m cx : Str} {j k : Nat} {ps : List Str} {C : ConX}
/-- o.m(e, ..), o a datum of the class cx, which may raise -/
theorem nx_meth {apos : Pos} {pl : Sem Bool} (R : RdMX X.prog X.w X.K X.mg X.base j cx m ps C) (hr : Room k X.A) (h : N X ω δ o fun ω1 c => ∃ fs, c = .dat (insD (clsA X.mg cx) fs) ∧ lookF fs m = none ∧ NA X ω1 δ (e :: es) fun ω2 cs => C (.dat (insD (clsA X.mg cx) fs) :: cs) ω2 Φ fun ω' A dd => Ψ ω' δ A dd)
    (hjk : j ≤ k := by decide) (hst : starEach (e :: es) X.env = (false, eval e X.env) :: starEach es X.env := by rfl) (hpl : (backTo pos (starEach es X.env)).any (·.1) = false := by rfl)
    (ht : eval (.Call (.Attribute o m apos) (e :: es) [] pos) X.env = (do let ov ← eval o X.env; standAt apos.atName; let (g, one) ← holding [ov] (getMethod ov m pl); callWith pos g one (backTo pos (starEach (e :: es) X.env)) (backToKw pos (keywordEach [] X.env))) := by rfl) : NX X ω δ (.Call (.Attribute o m apos) (e :: es) [] pos) Φ Ψ := by
  obtain ⟨f, fd, G, hm, hb⟩ := R.ex
  intro σ H Q s t q pins s0 I
  refine (WE.of (X := X) (σ := σ) (H := H) (t := fun σ H Q => WE X o σ H fun v H1 => (∃ a dx vs, v = .ref a ∧ H1 a = some (.ins (clsA X.mg cx) dx vs) ∧ vs.lookup m = none ∧ Cls X.K (clsA X.mg cx)) ∧ ∀ a, v = .ref a → WA X (e :: es) σ H1 fun ws H2 => ∃ W : WX, Takes X W ∧ spDX X.K C (v :: ws) H2 Q (L2.WE W σ)) ?_ ?_) pins s0 I
  · refine ⟨fun pins s σ H Q I h1 => ?_⟩
    refine PySem.W.methodCall_KW (pl := pl) (thn (h1 pins s I) fun u s1 ⟨v, H1, I1, rx, ⟨a, dx, vs, ex, ea, hl, hc⟩, q1⟩ => ?_) ht
    subst ex
    obtain rfl : u = .ref a := rx
    refine getmeth_ok I1 ea hc hm hl ?_
    refine PySem.W.callWith_K (first := [.ref a]) (h₀ := X.base) I1.ok.mod.kin hm.kp (thn (q1 a rfl pos pins s1 I1) fun us s2 ⟨ws, H2, I2, r, W, tW, q2⟩ => ⟨I2.kIn, ?_⟩) hst hpl
    exact run_fnS (us := .ref a :: us) (vs := .ref a :: ws) (E := L2.WE W) G (hr.mono hjk) hb (passAt tW σ) I2 (.cons rfl r) q2
  · refine h σ H _ s fun ω1 c v H1 ⟨fs, ec, hl, f1⟩ s1 k1 o1 => ?_
    subst ec
    obtain ⟨a, dx, vs, ev, h1, h2, h3⟩ := ins_of o1
    subst ev
    refine ⟨⟨a, dx, vs, rfl, (hid_some h1).2, rpf_none h3 hl, h2.cls⟩, fun a' _ => f1 σ H1 _ s1 fun ω2 cs ws H2 f2 s2 k2 o2 => ?_⟩
    refine ⟨_, t.after (k1.trans k2), ω2, _, Φ, _, .cons (CellOk.mono (c := .dat _) k2 o1) o2, s2.own, f2, fun ω3 c v H3 f3 s3 k3 o3 => q ω3 c v H3 f3 ⟨s2.env.mono k3, s3⟩ (k1.trans (k2.trans k3)) o3, fun ω3 A dd H3 f3 s3 k3 => ?_⟩
    exact ⟨ω3, δ, A, dd, rfl, rfl, f3, ⟨s2.env.mono k3, s3⟩, k3⟩
end
/-! ## raise -/
/-- an exception class whose __init__ stores its one argument -/
structure HasX (K : PySem.W.Frag) (mg : Str → Option Value) (x f : Str) (st : Stmt) (ps : List Str) : Prop where
  at_ : mg x = some (.ref (clsA mg x))
  oex : OexC K (clsA mg x)
  xf : XfC K (clsA mg x)
  no : PySem.W.findIn K (.ref (clsA mg x)) f = some none
  init : ∃ fI fd qual, Fun K "__init__" qual st fI fd ∧ PySem.W.findIn K (.ref (clsA mg x)) "__init__" = some (some (.ref fI)) ∧ PySem.W.typeIn K (.ref fI) = some (.type "function") ∧ Binds K fd ps []
def spX (K : PySem.W.Frag) (f : Str) : Sp := fun vs H Q _ => ∃ (a C : Addr) (v : V), vs = [.ref a, v] ∧ H a = some (exo a C none) ∧ OexC K C ∧ PySem.W.findIn K (.ref C) f = some none ∧ ∀ dx, H dx = none → dx ≠ a → Q .non (upd (upd H dx (exd dx [(f, v)])) a (exo a C (some dx)))
section
variable {P : Program} {w : World} {K : PySem.W.Frag} {mg : Str → Option Value} {base : Heap}
theorem okXi {qual u f : Str} {st : Stmt} {fI : Addr} {fd : FuncData} {q1 q2 q3 q4 : Pos} (F : Fun K "__init__" qual st fI fd) (sc : FnScope ["self", u] ["self", u] (defScope st)) (hs : (defScope st).names.lookup ("self" : Str) = some NameKind.local) (hu : (defScope st).names.lookup u = some NameKind.local) (hg : (u == ("__debug__" : Str)) = false) (hcd : (u == ("__classdict__" : Str)) = false)
    (hb : defBody st = [.Assign [.Attribute (.Name "self" q1) f q2] (.Name u q3) q4])
    (hsw : ∀ env : PySem.Env, swapsWith (.Name u q3) (some (.Attribute (.Name "self" q1) f q2)) q4.line env = pure false) : FnOk P w K mg base CX0 1 fI fd ["self", u] (spX K f) := by
  refine F.ok sc (fun vs H Q E ⟨a, C, v, e, _⟩ => by rw [e]; rfl) fun cdv A outer s H vs Q E hr ⟨a, C, v, e, h1, h2, h3, h4⟩ => ?_
  subst e
  refine ⟨_, by rw [hb]; exact pss_one (ps_ost (pe_var (i := 0) rfl (.inl hs) (by decide) (by decide)) (pe_var (i := 1) rfl (.inl hu) hg hcd) (hsw _)), ?_⟩
  exact ⟨_, rfl, _, rfl, a, C, rfl, h2, h3, .inl ⟨h1, fun dx n ne => h4 dx n ne⟩⟩
end
section
variable {X : Cx} {ω : Ow} {δ : Env} {Ψ : ExP} {E : En} {e : Expr} {pos p1 p2 : Pos} {x f u : Str} {k : Nat} {st : Stmt}
theorem sx_raise (HX : HasX X.K X.mg x f st ["self", u]) (ok : ∀ {qual : Str} {fI : Addr} {fd : FuncData}, Fun X.K "__init__" qual st fI fd → FnOk X.prog X.w X.K X.mg X.base CX0 1 fI fd ["self", u] (spX X.K f)) (hr : Room k X.A) (hc : X.calm = true)
    (h : N X ω δ e fun ω1 c => ∃ d, c = .dat d ∧ ∀ dd, Ψ ((dd, xdP [(.str f, d)]) :: ω1) δ (clsA X.mg x) dd) (hk : 2 ≤ k := by decide) (hg : Gl X x := by rfl) (hdb : (x == ("__debug__" : Str)) = false := by decide)
    (he : starEach [e] X.env = (false, eval e X.env) :: starEach [] X.env := by rfl) (hpl : (backTo p2 (starEach [] X.env)).any (·.1) = false := by rfl) : SX X ω δ (.Raise (some (.Call (.Name x p1) [e] [] p2)) none pos) E Ψ := fun σ H D s t fi => by
  obtain ⟨fI, fd, qual, F, iC, tI, hb⟩ := HX.init
  refine WS.of (ps_raise hc t (pmk_oex HX.oex iC tI (ok F) (hr.mono hk) hb .nil (pass0 (X := X)) hg HX.at_ (pa_cons (WE.pe X e) pa_nil he) hdb he hpl)) (h σ H _ s fun ω1 c v H1 ⟨d, ec, q⟩ s1 k1 o1 => ?_)
  subst ec
  refine ⟨by show 1 ≤ 1000; decide, fun a ha => ⟨a, _, v, rfl, upd_same, HX.oex, HX.no, fun dx hdx hne => ⟨rfl, dx, [(f, v)], upd_same, by rw [upd_ne hne, upd_same], ?_, ?_⟩⟩⟩
  · rw [upd_ne hne] at hdx; exact hdx
  · have hd1 : H1 dx = none := by rw [upd_ne hne] at hdx; exact hdx
    have eq : upd (L2.del (upd (upd (upd H1 a (exo a (clsA X.mg x) none)) dx (exd dx [(f, v)])) a (exo a (clsA X.mg x) (some dx))) a) dx (.xd [(f, v)]) = upd H1 dx (.xd [(f, v)]) := by
      funext b
      by_cases z : b = dx
      · subst z; rw [upd_same, upd_same]
      · rw [upd_ne z, upd_ne z]
        by_cases z2 : b = a
        · subst z2; rw [del_same, ha]
        · rw [del_ne z2, upd_ne z2, upd_ne z, upd_ne z2]
    rw [eq]
    have ho : (xdP [(.str f, d)]).ok X.K (hid (dom ω1) H1) (.xd [(f, v)]) := ⟨_, rfl, .cons o1 .nil⟩
    exact ⟨_, δ, _, dx, rfl, rfl, q dx, s1.cons hd1 ho, k1.trans (s1.own.cons hd1 ho).2⟩
end
/-! ## try -/
structure Cz where
  cl : Value
  slot : Option Nat
  sts : List Stmt
def onE (δ : Env) (a : Addr) : Option Nat → Env
  | none => δ
  | some i => δ.set i (some (.raw (.ref a)))
def offE (E : En) : Option Nat → En
  | none => E
  | some i => { nx := fun ω δ => E.nx ω (δ.set i none), rt := E.rt, bk := fun ω δ => E.bk ω (δ.set i none), ct := fun ω δ => E.ct ω (δ.set i none) }
/-- the clauses for an exception, the first one first -/
def Sel (X : Cx) (E : En) : List Cz → ExP
  | [] => fun _ _ _ _ => False
  | z :: r => fun ω δ C dd => ∃ b, PySem.W.exmOne X.K (.ref C) z.cl = some b ∧ (b = true → ∀ a ob pn, Zc (.ref C) (some dd) ob → (∃ vs, ob.data = .fields vs) → B (X.suite a ((a, ob) :: pn)) ω (onE δ a z.slot) z.sts (offE E z.slot)) ∧ (b = false → Sel X E r ω δ C dd)
def toA (X : Cx) (z : Cz) : TA.Clz := ⟨z.cl, z.slot, fun a cls d D σ H => ∀ ob pn, Zc cls d ob → (∃ vs, ob.data = .fields vs) → WB (X.suite a ((a, ob) :: pn)) z.sts D σ H⟩
inductive HOkC (X : Cx) : List ExceptHandler → List Cz → Prop
  | nil : HOkC X [] []
  | bare {x : Str} {c : Value} {b₀ : Stmt} {body : List Stmt} {q q' : Pos} {hds : List ExceptHandler} {l : List Cz} (hc : Names X x c) (r : HOkC X hds l) : HOkC X (.ExceptHandler (some (.Name x q)) none (b₀ :: body) q' :: hds) (⟨c, none, b₀ :: body⟩ :: l)
  | named {x n : Str} {c : Value} {i : Nat} {b₀ : Stmt} {body : List Stmt} {q q' : Pos} {hds : List ExceptHandler} {l : List Cz} (hc : Names X x c) (hN : X.N.Nodup) (hi : X.N[i]? = some n) (hln : X.env.kindOf n = some .local) (r : HOkC X hds l) :
      HOkC X (.ExceptHandler (some (.Name x q)) (some n) (b₀ :: body) q' :: hds) (⟨c, some i, b₀ :: body⟩ :: l)
section
variable {X : Cx} {ω : Ow} {δ : Env} {E : En} {body : List Stmt} {hds : List ExceptHandler} {h₀ : ExceptHandler} {l : List Cz} {pos : Pos}
theorem HOkC.toA : ∀ {hds : List ExceptHandler} {l : List Cz}, HOkC X hds l → TA.HOkA X hds (l.map (DL.toA X))
  | _, _, .nil => .nil
  | _, _, .bare hc r => .bare hc (fun a ob cls d pn hz hf => ⟨fun pins s σ H D I h => h ob pn hz hf pins s I⟩) (HOkC.toA r)
  | _, _, .named hc hN hi hln r => .named hc hN hi hln (fun a ob cls d pn hz hf => ⟨fun pins s σ H D I h => h ob pn hz hf pins s I⟩) (HOkC.toA r)
theorem sel_wish {K : PySem.W.Frag} (hK : K = X.K) {ω0 ω' : Ow} {δ' : Env} {C dd : Addr} {σ' : L2.St} {H H' : Hp} {D : Ends} (f : Fits K ω0 H E D) (s : StOk K ω' δ' σ' H') (k : Kp (dom ω0) H (dom ω') H') : ∀ {l : List Cz}, Sel X E l ω' δ' C dd → TA.wish X.K D (l.map (toA X)) (.ref C) (some dd) σ' H'
  | [], h => h.elim
  | z :: r, ⟨b, h1, h2, h3⟩ => by
    refine ⟨b, h1, fun hb a ha ob pn hz hf => ?_, fun hb => sel_wish hK f s k (h3 hb)⟩
    subst hK
    have g := h2 hb a ob pn hz hf
    obtain ⟨cl, slot, sts⟩ := z
    cases slot with
    | none => exact g σ' H' D s (f.after k)
    | some i =>
      refine g (σ'.set i (some (.ref a))) H' _ (s.store i (c := .raw (.ref a)) rfl) ?_
      have f' := f.after k
      exact ⟨fun ω2 δ2 σ2 H2 q s2 k2 => f'.nx ω2 _ _ H2 q ⟨s2.env.wipe i, s2.own⟩ k2, f'.rt, fun ω2 δ2 σ2 H2 q s2 k2 => f'.bk ω2 _ _ H2 q ⟨s2.env.wipe i, s2.own⟩ k2, fun ω2 δ2 σ2 H2 q s2 k2 => f'.ct ω2 _ _ H2 q ⟨s2.env.wipe i, s2.own⟩ k2⟩
theorem s_try (hh : HOkC X (h₀ :: hds) l) (h : ∀ (pn : List (Addr × Obj)) (xe : Value → Shared → Prop), PassesOwn (model X.prog X.w) X.A X.env xe → BX (X.tr pn xe) ω δ body E (Sel X E l))
    (hstk : X.stack = X.env :: X.outer := by rfl) (hfrm : X.env.frame = some X.env.locals := by rfl) : S X ω δ (.Try body (h₀ :: hds) [] [] pos) E := fun σ H D s f =>
  WS.of (TA.ps_tryA (tb := fun W D σ H => ∀ (pn : List (Addr × Obj)) (xe : Value → Shared → Prop), Takes (X.tr pn xe) W → PassesOwn (model X.prog X.w) X.A X.env xe → WB (X.tr pn xe) body D σ H) hstk hfrm (fun W pn xe tk po => ⟨fun pins s σ H D I g => g pn xe tk po pins s I⟩) hh.toA) (fun pn xe tk po =>
    h pn xe po σ H D s (tk.imp fun cls d σ' H' ⟨ω', δ', C, dd, a1, a2, a3, a4, a5⟩ => by
      subst a1; subst a2
      exact sel_wish (X := X) rfl f a4 a5 a3) f)
/-- the field of the exception at hand -/
theorem n_xf {e : Expr} {a C dd : Addr} {ob : Obj} {pn : List (Addr × Obj)} {f : Str} {fs : List (PyData × PyData)} {d : PyData} {Φ : Ow → Cell → Prop} (n : Nat) (T : XfC X.K C) (hno : PySem.W.findIn X.K (.ref C) f = some none) (hz : Zc (.ref C) (some dd) ob) (hf : ∃ vs, ob.data = .fields vs)
    (h : N (X.suite a ((a, ob) :: pn)) ω δ e fun ω1 c => c = .raw (.ref a) ∧ ω1[n]? = some (dd, xdP fs) ∧ lookF fs f = some d ∧ Φ ω1 (.dat d)) (hb : attributeBase e f X.env (eval e X.env) = eval e X.env := by rfl) : N (X.suite a ((a, ob) :: pn)) ω δ (.Attribute e f pos) Φ :=
  n_lift (pe_xf T hno hz hf (WE.pe _ e) hb) fun σ H Q s q => h σ H _ s fun ω1 c v H1 ⟨ec, hw, hl, f1⟩ s1 k1 o1 => by
    subst ec
    cases o1
    obtain ⟨o, g1, vs, rfl, g2⟩ := s1.own.at_ dd _ (List.mem_of_getElem? hw)
    obtain ⟨w, h4, h5⟩ := rpf_look g2 hl
    exact ⟨rfl, rfl, dd, vs, w, rfl, g1, h4, q ω1 _ w H1 f1 s1 k1 h5⟩
end
end DL

namespace DL
open PySem PySem.Spec L2
theorem hasX_mk {K : PySem.W.Frag} {mg : Str → Option Value} {x f qual : Str} {st : Stmt} {ps : List Str} {C fI N : Addr} {h : Heap} {nm q : Str} {bs bm : List Value} {sn : List Str} {sub : List Value} {ab : Bool} {col : Option Bool} {dd : Option Addr} {m0 m1 m2 m3 m5 : Option Value}
    {od an : Option Addr} {sl : Array (Option Value)} {oc kV doc pm cd ct : Value} (X : K.In h) (G : h.Ns mainGlobals mg) (a : PySem.W.nsIn K mainGlobals x = some (some (.ref C)))
    (xL : K.lookup C = some (excClassObj nm q C N bs bm true sn sub ab col dd m0 m1 m2 m3 m5 "ValueError.__new__")) (hbm : PySem.HandSPX.refsVE bm = true) (sa : PySem.W.findIn K (.ref C) "__setattr__" = some (some (.builtin "object.__setattr__"))) (exC : PySem.W.subIn K (.ref C) (.type "BaseException") = some true)
    (tyC : PySem.W.typeIn K (.ref C) = some (.type "type")) (kC : PySem.W.keepIn K (.ref C) = true) (ga : PySem.W.findIn K (.ref C) "__getattribute__" = some (some (.builtin "BaseException.__getattribute__"))) (gg : PySem.W.findIn K (.ref C) "__getattr__" = some none) (hdC : PySem.W.hasDictIn K C = true)
    (no : PySem.W.findIn K (.ref C) f = some none) (iC : PySem.W.findIn K (.ref C) "__init__" = some (some (.ref fI))) (tI : PySem.W.typeIn K (.ref fI) = some (.type "function")) (kI : PySem.W.keepIn K (.ref fI) = true)
    (l : K.lookup fI = some ⟨oc, od, .func (PySem.W.fnOf "__init__" qual (defArgs st) (defBody st) (defScope st) .none kV doc pm an cd ct), sl⟩) (c : PySem.W.codeIn K cd qual = true)
    (b : ∀ (kV doc pm : Value) (an : Option Addr) (cdv ct : Value) (us : List Value), us.length = ps.length → bindArgs (PySem.W.fnOf "__init__" qual (defArgs st) (defBody st) (defScope st) .none kV doc pm an cdv ct) ⟨us, []⟩ = pure (ps.zip us)) : HasX K mg x f st ps := by
  have e := PySem.W.mg_of X G a
  have ce := clsA_of e
  have F := fun_mk (st := st) l c kI
  exact ⟨by rw [ce]; exact e, by rw [ce]; exact ⟨⟨nm, q, N, bs, bm, sn, sub, ab, col, dd, m0, m1, m2, m3, m5, xL, hbm⟩, sa, exC, tyC, kC⟩, by rw [ce]; exact ⟨ga, gg, exC, hdC⟩, by rw [ce]; exact no, fI, _, qual, F, by rw [ce]; exact iC, tI, F.binds b⟩
theorem exm_mk {K : PySem.W.Frag} {mg : Str → Option Value} {x y : Str} {C D : Addr} {h : Heap} {b : Bool} (X : K.In h) (G : h.Ns mainGlobals mg) (a1 : PySem.W.nsIn K mainGlobals x = some (some (.ref C))) (a2 : PySem.W.nsIn K mainGlobals y = some (some (.ref D)))
    (h1 : PySem.W.subIn K (.ref D) (.type "BaseException") = some true) (h2 : PySem.W.hasDictIn K D = true) (h3 : PySem.W.typeIn K (.ref D) = some (.type "type")) (h4 : PySem.W.mroIn K C (.ref D) = some b) : PySem.W.exmOne K (.ref (clsA mg x)) (.ref (clsA mg y)) = some b := by
  rw [clsA_of (PySem.W.mg_of X G a1), clsA_of (PySem.W.mg_of X G a2)]
  exact PySem.W.exm_ref h1 h2 h3 h4
end DL

namespace DL
open PySem PySem.Spec L2
section
variable {P : Program} {w : World} {K : PySem.W.Frag} {mg : Str → Option Value} {base : Heap} {cx m : Str} {k : Nat} {ps : List Str} {C : ConX}
/-- a promise of a def that may raise, where it doesn't -/
theorem RdMX.calm (R : RdMX P w K mg base k cx m ps C) : RdM P w K mg base k cx m ps fun cs ω Φ => C cs ω Φ fun _ _ _ => False := by
  obtain ⟨f, fd, G, hm, hb⟩ := R.ex
  have cv : ∀ {vs : List V} {H : Hp} {Q : VK} {E : XK}, spD K (fun cs ω Φ => C cs ω Φ fun _ _ _ => False) vs H Q E → spDX K C vs H Q fun _ _ _ => False := fun ⟨ω, cs, Φ, h1, h2, h3, h4⟩ => ⟨ω, cs, Φ, _, h1, h2, h3, h4, fun _ _ _ _ z => z.elim⟩
  refine ⟨f, fd, ⟨fun vs H Q E h => G.len vs H Q _ (cv h), fun A outer s H args us vs Q E hr en hbi rv h => ?_⟩, hm, hb⟩
  refine codeAny_mono (G.run A outer s H args us vs Q _ hr en hbi rv (cv h)) fun r s' hq => ?_
  cases r with
  | ok fl => cases fl <;> exact hq
  | error e =>
    obtain ⟨_, _, _, _, _, _, _, _, _, _, _, _, z⟩ := hq
    exact z.elim
end
section
variable {X : Cx} {ω : Ow} {δ : Env} {a e : Expr} {Φ : Ow → Cell → Prop} {pos p1 p2 p3 : Pos} {cx x y z : Str} {j k : Nat} {C : Con} {E : En}
/-- len(o), o an instance with its own __len__ -/
theorem n_lenI (hm0 : X.mg "len" = none) (R : RdM X.prog X.w X.K X.mg X.base j cx "__len__" ["self"] C) (hr : Room k X.A) (h : N X ω δ a fun ω1 c => ∃ fs, c = .dat (insD (clsA X.mg cx) fs) ∧ C [.dat (insD (clsA X.mg cx) fs)] ω1 fun ω2 c2 => ∃ n : Int, c2 = .dat (.int n) ∧ 0 ≤ n ∧ n < 2 ^ 63 ∧ Φ ω2 c2)
    (hjk : j + 1 ≤ k := by decide) (hg : Gl X "len" := by rfl) (he : starEach [a] X.env = (false, eval a X.env) :: starEach [] X.env := by rfl) : N X ω δ (.Call (.Name "len" p1) [a] [] pos) Φ := by
  obtain ⟨f, fd, G, hm, hb⟩ := R.ex
  have rule : CallR X (.builtin "len") (fun xs H Q => ∃ a dx vs, xs = [.ref a] ∧ H a = some (.ins (clsA X.mg cx) dx vs) ∧ spD X.K C [.ref a] H (fun v H2 => ∃ n : Int, v = .int n ∧ 0 ≤ n ∧ n < 2 ^ 63 ∧ Q v H2) fun _ _ _ => False) := by
    rintro pins s σ H xs us Q I rv ⟨a, dx, vs, rfl, e1, sp⟩
    obtain ⟨u, rfl, ru⟩ := vals1 rv
    obtain rfl : u = .ref a := ru
    obtain ⟨mA, O, r, _, _, _⟩ := ins_get I.hok e1
    obtain ⟨od, J, _⟩ := O.look
    obtain ⟨mm, fr⟩ := I.fr
    refine PySem.W.len_K (h₀ := X.base) fr I.ok.mod.kin J hm.at_ hm.fn ?_
    have hl : ([Value.ref a] ++ []).length = (["self"] : List Str).length := rfl
    have hbs := hb s [.ref a] I.kIn hl
    rw [List.append_nil] at hbs
    refine wpAny_call (codeAny_mono (G.run X.A.in1 X.stack s H ⟨[.ref a], []⟩ [.ref a] [.ref a] _ _ (hr.mono hjk).in1 I.env0.in1 hbs (.cons rfl .nil) sp) fun r s' hq => ?_)
    cases r with
    | error er => exact hq.elim
    | ok fl =>
      cases fl with
      | ret u =>
        obtain ⟨v, H', I', rl, n, en, n0, n1, q⟩ := I.after hq
        subst en
        obtain ⟨t, rfl⟩ := rl
        exact ⟨⟨n0, n1⟩, .int n, H', I'.tok _, ⟨_, rfl⟩, q⟩
      | next => exact hq.elim
      | brk => exact hq.elim
      | cont => exact hq.elim
  refine n_lift (pe_callB rule hg hm0 (by decide +kernel) (pa_cons (WE.pe X a) pa_nil he) (by decide) (by decide) he (by rfl)) fun σ H Q s q => h σ H _ s fun ω1 c v H1 ⟨fs, ec, f1⟩ s1 k1 o1 => ?_
  subst ec
  obtain ⟨ad, dx, vs, ev, h1, h2, h3⟩ := ins_of o1
  subst ev
  exact ⟨ad, dx, vs, rfl, (hid_some h1).2, ω1, _, _, .cons o1 .nil, s1.own, f1, fun ω3 c v H3 ⟨n, ec, n0, n1, f3⟩ s3 k3 o3 => by
    subst ec
    cases int_of o3
    exact ⟨n, rfl, n0, n1, q ω3 _ _ H3 f3 ⟨s1.env.mono k3, s3⟩ (k1.trans k3) (Rp.int _)⟩⟩
/-- x, y, z = a tuple of three -/
theorem s_unp3 (i j l : Nat) {px py pz pt : Pos} {kt : Nat} (hc : X.calm = true) (hN : X.N.Nodup) (h : N X ω δ e fun ω1 c => ∃ d1 d2 d3, c = .dat (.tuple [d1, d2, d3]) ∧ E.nx ω1 (((δ.set i (some (.dat d1))).set j (some (.dat d2))).set l (some (.dat d3))))
    (hi : X.N[i]? = some x := by rfl) (hj : X.N[j]? = some y := by rfl) (hl : X.N[l]? = some z := by rfl) (hx : Loc X.env.scope x := by first | exact Or.inl rfl | exact Or.inr rfl) (hy : Loc X.env.scope y := by first | exact Or.inl rfl | exact Or.inr rfl) (hz : Loc X.env.scope z := by first | exact Or.inl rfl | exact Or.inr rfl)
    (hf1 : X.fn x = true ∨ X.env.scope.names.lookup x = some .local := by first | exact .inl rfl | exact .inr rfl | assumption) (hf2 : X.fn y = true ∨ X.env.scope.names.lookup y = some .local := by first | exact .inl rfl | exact .inr rfl | assumption) (hf3 : X.fn z = true ∨ X.env.scope.names.lookup z = some .local := by first | exact .inl rfl | exact .inr rfl | assumption)
    (hs : swapsWithSole [.Tuple [.Name x px, .Name y py, .Name z pz] kt pt] e pos.line X.env = pure false := by rfl) (hw : swappedStores [.Tuple [.Name x px, .Name y py, .Name z pz] kt pt] e X.env = pure none := by rfl)
    (h1 : (assignEach [.Tuple [.Name x px, .Name y py, .Name z pz] kt pt] X.env).map (·.2) = [assign (.Tuple [.Name x px, .Name y py, .Name z pz] kt pt) X.env] := by rfl)
    (h2 : (assignEach [.Name x px, .Name y py, .Name z pz] X.env).map (·.2) = assign (.Name x px) X.env :: (assignEach [.Name y py, .Name z pz] X.env).map (·.2) := by rfl) (h3 : (assignEach [.Name y py, .Name z pz] X.env).map (·.2) = assign (.Name y py) X.env :: (assignEach [.Name z pz] X.env).map (·.2) := by rfl)
    (h3b : (assignEach [.Name z pz] X.env).map (·.2) = assign (.Name z pz) X.env :: (assignEach [] X.env).map (·.2) := by rfl)
    (h4 : (assignEach [.Name x px, .Name y py, .Name z pz] X.env).length = 3 := by rfl) (h5 : (assignEach [.Name x px, .Name y py, .Name z pz] X.env).findIdx? (·.1) = none := by rfl) : S X ω δ (.Assign [.Tuple [.Name x px, .Name y py, .Name z pz] kt pt] e pos) E := fun σ H D s f =>
  WS.of (ps_asg (WE.pe X e) (pg_tup hc (pgs_cons (pg_name hN hi hx hf1) (pgs_cons (pg_name hN hj hy hf2) (pgs_cons (pg_name hN hl hz hf3) pgs_nil h3b) h3) h2) h4 h5) hs hw h1) (h σ H _ s fun ω1 c v H1 ⟨d1, d2, d3, e1, q⟩ s1 k1 o1 => by
    subst e1
    cases o1 with
    | tup sq ra =>
      cases ra with
      | cons r1 ra =>
        cases ra with
        | cons r2 ra =>
          cases ra with
          | cons r3 ra =>
            cases ra
            have sq' : SqT X.K H1 _ _ := sq.imp (fun z => rd_hid z) id
            exact ⟨_, _, rfl, sq', rfl, _, _, rfl, _, _, rfl, _, _, rfl, rfl, f.nx ω1 _ _ H1 q (((s1.store i (c := .dat d1) r1).store j (c := .dat d2) r2).store l (c := .dat d3) r3) k1⟩)
/-- what [g(i, r) for i in range(n) for r in range(lo, hi)] is -/
def gridD (lo hi : Int) (g : Nat → Int → PyData) : Nat → List PyData
  | 0 => []
  | n + 1 => gridD lo hi g n ++ (List.range (hi - lo).toNat).map fun r => g n (lo + (r : Nat))
theorem grid_len (lo hi : Int) (g : Nat → Int → PyData) : ∀ n, (gridD lo hi g n).length = n * (hi - lo).toNat
  | 0 => by simp [gridD]
  | n + 1 => by
    rw [gridD, List.length_append, grid_len lo hi g n, List.length_map, List.length_range, Nat.add_mul, Nat.one_mul]
theorem n_lcRR (j j1 : Nat) {elt b1 b2 : Expr} {x1 : Str} {q1 q2 q3 : Pos} {scope : Scope} {n lo hi : Int} {g : Nat → Int → PyData} (hjj : j ≠ j1) (hlen : j1 < δ.length) (hc : X.calm = true) (hn : X.N.Nodup) (hm : X.mg "range" = none) (hb : BlkOk X.N X.env.scope scope [(x, j), (x1, j1)])
    (hz : n.toNat * (hi - lo).toNat ≤ 90000) (hbd : -1000000 ≤ n ∧ n ≤ 1000000 ∧ -1000000 ≤ lo ∧ lo ≤ 1000000 ∧ -1000000 ≤ hi ∧ hi ≤ 1000000) (h : N X ω δ a fun ω1 c => ω1 = ω ∧ c = .dat (.int n))
    (hin : BlkF X scope fun Y => ∀ ω' (i : Nat), N Y ω' (((δ.set j1 none).set j none).set j (some (.dat (.int (i : Int))))) b1 fun ω3 c => ω3 = ω' ∧ c = .dat (.int lo) ∧ N Y ω' (((δ.set j1 none).set j none).set j (some (.dat (.int (i : Int))))) b2 fun ω4 c2 => ω4 = ω' ∧ c2 = .dat (.int hi))
    (hel : BlkF X scope fun Y => ∀ ω' (i : Nat) (r : Int), N Y ω' (((((δ.set j1 none).set j none).set j (some (.dat (.int (i : Int))))).set j1 none).set j1 (some (.dat (.int r)))) elt fun ω3 c3 => ω3 = ω' ∧ c3 = .dat (g i r))
    (q0 : ∀ D, Φ ((D, lstP (gridD lo hi g n.toNat)) :: ω) (.raw (.ref D)))
    (hgt : BlkF X scope fun Y => PG Y (.Name x p1) (gName j)) (hgt1 : BlkF X scope fun Y => PG Y (.Name x1 q1) (gName j1)) (hgl : Gl X "range" := by rfl) (ha : starEach [a] X.env = [(false, eval a X.env)] := by rfl)
    (hgl1 : BlkF X scope fun Y => Gl Y "range" := by intro _ _ _ _ _; rfl) (ha1 : ∀ env, starEach [b1, b2] env = [(false, eval b1 env), (false, eval b2 env)] := by intro _; rfl) (ha2 : ∀ env, starEach [b2] env = [(false, eval b2 env)] := by intro _; rfl)
    (hs : ∀ y, foldedSetIterable (.Call (.Name "range" p2) [a] [] p3) X.env y = pure y := by intro _; rfl) (hs1 : ∀ env y, foldedSetIterable (.Call (.Name "range" q2) [b1, b2] [] q3) env y = pure y := by intro _ _; rfl) :
    N X ω δ (.ListComp elt [{ target := .Name x p1, iter := .Call (.Name "range" p2) [a] [] p3, ifs := [], is_async := 0 }, { target := .Name x1 q1, iter := .Call (.Name "range" q2) [b1, b2] [] q3, ifs := [], is_async := 0 }] scope pos) Φ :=
  n_lift (pe_lc2 (own := [(x, j), (x1, j1)]) (vs1 := [j1]) (g := gName j) (g1 := gName j1) (tt := tYes) (tt1 := tYes) (wi1 := fun σ H R => BlkF X scope fun Y => iRng2 (tCons (WE Y b1) (tCons (WE Y b2) tNil)) σ H R) (te := fun σ H Q => BlkF X scope fun Y => WE Y elt σ H Q) hc hn (pi_range1 hgl hm (pa_cons (WE.pe X a) pa_nil ha) ha) hb (by simp) hgt (fun _ _ _ _ _ => pts_nil)
    (fun s H C cl fp => ⟨fun pins s' σ' H' R I q => (pi_range2 (hgl1 s H C cl fp) hm (pa_cons (WE.pe _ b1) (pa_cons (WE.pe _ b2) pa_nil (ha2 _)) (by rw [ha1, ha2])) (ha1 _) (ha2 _)).run pins s' σ' H' R I (q s H C cl fp)⟩) hgt1 (fun _ _ _ _ _ => pts_nil) (fun s H C cl fp => ⟨fun pins s' σ' H' Q I q => q s H C cl fp pins s' I⟩) hs hs1) fun σ H Q s q => h σ H _ s fun ω1 c v H1 ⟨e0, e1⟩ s1 k1 o1 => by
    subst e0; subst e1
    cases int_of o1
    obtain ⟨z1, z2, z3, z4, z5, z6⟩ := hbd
    refine ⟨n, rfl, by omega, by omega, fun D hD => ?_⟩
    have hD0 : (lstP []).ok X.K (hid (dom ω1) H1) (.lst []) := ⟨[], rfl, .nil⟩
    refine ⟨fun i m H' => m = n.toNat - i ∧ i ≤ n.toNat ∧ StOk X.K ((D, lstP (gridD lo hi g i)) :: ω1) δ σ H' ∧ Kp (dom ω1) H1 (D :: dom ω1) H', ⟨n.toNat, by simp, Nat.zero_le _, s1.cons hD hD0, (s1.own.cons hD hD0).2⟩, ?_⟩
    rintro i m H' ⟨rfl, hi1, s2, k2⟩
    by_cases hlt : i < n.toNat
    rotate_left
    · have e : i = n.toNat := by omega
      subst e
      exact .inl ⟨Nat.le_refl _, q _ _ _ H' (q0 D) s2 (k1.trans k2) rfl⟩
    refine .inr ⟨hlt, fun H' => StOk X.K ((D, lstP (gridD lo hi g (i + 1))) :: ω1) δ σ H' ∧ Kp (dom ω1) H1 (D :: dom ω1) H', fun H3 gg => ⟨n.toNat - (i + 1), by omega, rfl, hlt, gg⟩, fun y H3 yl => ?_⟩
    obtain ⟨rfl, rfl⟩ := yl
    refine ⟨wipe2 hjj, ?_⟩
    unfold tYes
    simp only [↓reduceIte]
    intro s3 H9 C cl fp
    have sB : StOk X.K ((D, lstP (gridD lo hi g i)) :: ω1) (((δ.set j1 none).set j none).set j (some (.dat (.int (i : Int))))) ((wipe σ [j, j1]).set j (some (.int (0 + (i : Int))))) H3 := by
      rw [Int.zero_add]
      exact ⟨((s2.env.wipe j1).wipe j).set (c := .dat (.int i)) (Rp.int _) j, s2.own⟩
    refine hin s3 H9 C cl fp _ i _ _ _ sB fun ω3 c v H4 ⟨e1, e2, h2⟩ s4 k4 o4 => ?_
    subst e1; subst e2
    cases int_of o4
    refine h2 _ _ _ s4 fun ω4 c2 v2 H5 ⟨e3, e4⟩ s5 k5 o5 => ?_
    subst e3; subst e4
    cases int_of o5
    refine ⟨lo, hi, rfl, by omega, ?_⟩
    have pre : ∀ t : Nat, List PyData := fun t => gridD lo hi g i ++ (List.range t).map fun r => g i (lo + (r : Nat))
    refine ⟨fun i2 m2 H6 => m2 = (hi - lo).toNat - i2 ∧ i2 ≤ (hi - lo).toNat ∧ StOk X.K ((D, lstP (gridD lo hi g i ++ (List.range i2).map fun r => g i (lo + (r : Nat)))) :: ω1) (((δ.set j1 none).set j none).set j (some (.dat (.int (i : Int))))) ((wipe σ [j, j1]).set j (some (.int (0 + (i : Int))))) H6 ∧ Kp (D :: dom ω1) H5 (D :: dom ω1) H6, ⟨(hi - lo).toNat, by simp, Nat.zero_le _, by simpa using s5, Kp.refl _ _⟩, ?_⟩
    rintro i2 m2 H6 ⟨rfl, hi2, s6, k6⟩
    by_cases hlt2 : i2 < (hi - lo).toNat
    rotate_left
    · have e : i2 = (hi - lo).toNat := by omega
      subst e
      exact .inl ⟨Nat.le_refl _, ⟨s2.env.mono (k4.trans (k5.trans k6)), s6.own⟩, k2.trans (k4.trans (k5.trans k6))⟩
    refine .inr ⟨hlt2, fun H6 => StOk X.K ((D, lstP (gridD lo hi g i ++ (List.range (i2 + 1)).map fun r => g i (lo + (r : Nat)))) :: ω1) (((δ.set j1 none).set j none).set j (some (.dat (.int (i : Int))))) ((wipe σ [j, j1]).set j (some (.int (0 + (i : Int))))) H6 ∧ Kp (D :: dom ω1) H5 (D :: dom ω1) H6, fun H7 gg => ⟨(hi - lo).toNat - (i2 + 1), by omega, rfl, hlt2, gg⟩, fun y2 H7 yl2 => ?_⟩
    obtain ⟨rfl, rfl⟩ := yl2
    refine ⟨set_wipe, ?_⟩
    simp only [↓reduceIte]
    intro s7 H8 C7 cl7 fp7
    have sC : StOk X.K ((D, lstP (gridD lo hi g i ++ (List.range i2).map fun r => g i (lo + (r : Nat)))) :: ω1) (((((δ.set j1 none).set j none).set j (some (.dat (.int (i : Int))))).set j1 none).set j1 (some (.dat (.int (lo + (i2 : Int)))))) ((((wipe σ [j, j1]).set j (some (.int (0 + (i : Int))))).set j1 none).set j1 (some (.int (lo + (i2 : Int))))) H7 := ⟨(s6.env.wipe j1).set (c := .dat (.int (lo + (i2 : Int)))) (Rp.int _) j1, s6.own⟩
    refine hel s7 H8 C7 cl7 fp7 _ i _ _ _ _ sC fun ω8 c8 v8 H9 ⟨e1, e2⟩ s8 k8 o8 => ?_
    subst e1; subst e2
    obtain ⟨u, m1, vs, rfl, m2⟩ := s8.own.at_ D _ List.mem_cons_self
    have ho : (lstP (gridD lo hi g i ++ (List.range (i2 + 1)).map fun r => g i (lo + (r : Nat)))).ok X.K (hid (dom ((D, lstP (gridD lo hi g i ++ (List.range i2).map fun r => g i (lo + (r : Nat)))) :: ω1)) H9) (.lst (vs ++ [v8])) := by
      rw [List.range_succ, List.map_append, ← List.append_assoc]
      exact ⟨_, rfl, m2.append (.cons o8 .nil)⟩
    have oo := s8.own.put (i := 0) (p := D) (P := lstP (gridD lo hi g i ++ (List.range i2).map fun r => g i (lo + (r : Nat)))) rfl ho
    have kk : Kp (D :: dom ω1) H7 (D :: dom ω1) (upd H9 D (.lst (vs ++ [v8]))) := Kp.trans k8 (kp_upd List.mem_cons_self)
    refine ⟨vs, m1, ?_, ⟨s6.env.mono kk, oo⟩, k6.trans kk⟩
    rw [m2.len, List.length_append, grid_len, List.length_map, List.length_range]
    have : (i + 1) * (hi - lo).toNat ≤ n.toNat * (hi - lo).toNat := Nat.mul_le_mul_right _ hlt
    rw [Nat.add_mul, Nat.one_mul] at this
    exact Nat.lt_of_le_of_lt (m := 100000) (by omega) (by decide)
end
end DL

namespace DL
open PySem PySem.Spec L2
/-- a class of the top level, by its name -/
def AtC (_ : PySem.W.Frag) (mg : Str → Option Value) (x : Str) : Prop := mg x = some (.ref (clsA mg x))
theorem at_mk {K : PySem.W.Frag} {mg : Str → Option Value} {x : Str} {C : Addr} {h : Heap} (X : K.In h) (G : h.Ns mainGlobals mg) (a : PySem.W.nsIn K mainGlobals x = some (some (.ref C))) : AtC K mg x := by
  have e := PySem.W.mg_of X G a
  unfold AtC
  rw [clsA_of e]
  exact e
theorem grid_mem {lo hi : Int} {g : Nat → Int → PyData} : ∀ {n : Nat} {a : PyData}, a ∈ gridD lo hi g n → ∃ (i : Nat) (r : Int), i < n ∧ lo ≤ r ∧ r < hi ∧ a = g i r
  | 0, a, h => by cases h
  | n + 1, a, h => by
    rcases List.mem_append.mp h with h | h
    · obtain ⟨i, r, h1, h2⟩ := grid_mem h
      exact ⟨i, r, Nat.lt_succ_of_lt h1, h2⟩
    · obtain ⟨j, hj, rfl⟩ := List.mem_map.mp h
      have := List.mem_range.mp hj
      exact ⟨n, _, Nat.lt_succ_self n, by omega, by omega, rfl⟩
theorem filter_take1 {p : PyData → Bool} {l : List PyData} {i : Nat} {a : PyData} (h : l[i]? = some a) : (l.take (i + 1)).filter p = (l.take i).filter p ++ if p a = true then [a] else [] := by
  rw [List.take_add_one, h, List.filter_append]
  show _ ++ List.filter p [a] = _
  rw [List.filter_cons, List.filter_nil]
section
variable {X : Cx} {ω : Ow} {δ : Env} {e a b c elt iter : Expr} {Φ : Ow → Cell → Prop} {pos p1 p2 p3 : Pos} {x : Str} {scope : Scope}
theorem t_lcLwi (j : Nat) {test : Expr}
    (h : N X ω δ iter fun ω1 c => ∃ ds, c = .dat (.list ds) ∧ ∃ J : Nat → Ow → List PyData → Prop, J 0 ω1 [] ∧
      (∀ i ω2 acc D d0, ds[i]? = some d0 → J i ω2 acc → BlkF X scope fun Y => NT Y ((D, lstP acc) :: ω2) ((δ.set j none).set j (some (.dat d0))) test fun ω3 k =>
        if k = true then BlkF X scope fun Y => N Y ω3 ((δ.set j none).set j (some (.dat d0))) elt fun ω3 c => ∃ d, c = .dat d ∧ acc.length < 100000 ∧ ∃ ω4, ω3 = (D, lstP acc) :: ω4 ∧ J (i + 1) ω4 (acc ++ [d]) else ∃ ω4, ω3 = (D, lstP acc) :: ω4 ∧ J (i + 1) ω4 acc) ∧
      ∀ ω2 acc, J ds.length ω2 acc → ∀ D, Φ ((D, lstP acc) :: ω2) (.raw (.ref D))) {σ : St} {H : Hp} {Q : VK} (s : StOk X.K ω δ σ H) (q : ∀ ω' c v H', Φ ω' c → StOk X.K ω' δ σ H' → Kp (dom ω) H (dom ω') H' → CellOk X.K (dom ω') H' v c → Q v H') :
    tLc (iList X.K (WE X iter)) (gName j) (fun σ H Q => BlkF X scope fun Y => WT Y test σ H Q) (fun σ H Q => BlkF X scope fun Y => WE Y elt σ H Q) [j] σ H Q :=
  h σ H _ s fun ω1 c v H1 ⟨ds, e1, J, j0, jt, je⟩ s1 k1 o1 => by
    subst e1
    cases o1 with
    | @lst l xs _ hl hr =>
      refine ⟨l, rfl, ⟨xs, SqL.of (hid_some hl).2⟩, fun D hD => ?_⟩
      have hD0 : (lstP []).ok X.K (hid (dom ω1) H1) (.lst []) := ⟨[], rfl, .nil⟩
      refine lc_list (K := X.K) (a := l) (xs := xs) (g := gName j) (tt := fun σ H Q => BlkF X scope fun Y => WT Y test σ H Q) (te := fun σ H Q => BlkF X scope fun Y => WE Y elt σ H Q) (vs := [j]) (σ := σ) (H1 := H1) (D := D) (Qd := fun H => Q (.ref D) H) (fun i H' => ∃ ω2 acc, J i ω2 acc ∧ StOk X.K ((D, lstP acc) :: ω2) δ σ H' ∧ Kp (dom ω1) H1 (D :: dom ω2) H') ⟨ω1, [], j0, s1.cons hD hD0, (s1.own.cons hD hD0).2⟩ ?_ ?_ ?_
      · rintro i H' _ ⟨ω2, acc, _, _, k2⟩
        exact SqL.of (hid_some (k2 _ _ hl)).2
      · rintro i y H' hy ⟨ω2, acc, hJ, s2, k2⟩
        refine ⟨set_wipe, fun s3 H3 C cl fp => ?_⟩
        obtain ⟨d0, hd0, rd0⟩ := hr.get' hy
        have sB : StOk X.K ((D, lstP acc) :: ω2) ((δ.set j none).set j (some (.dat d0))) ((wipe σ [j]).set j (some y)) H' := ⟨(s2.env.wipe j).set (c := .dat d0) (rd0.mono k2) j, s2.own⟩
        refine jt i ω2 acc D d0 hd0 hJ s3 H3 C cl fp _ _ _ sB fun ω5 k H5 f5 s5 k5 => ?_
        cases k with
        | true =>
          refine fun s6 H6 C6 cl6 fp6 => f5 s6 H6 C6 cl6 fp6 _ _ _ s5 fun ω3 c v H4 ⟨d, e1, hz, ω4, e2, hJ'⟩ s4 k4 o4 => ?_
          subst e1; subst e2
          obtain ⟨u, m1, vs, rfl, m2⟩ := s4.own.at_ D _ List.mem_cons_self
          have ho : (lstP (acc ++ [d])).ok X.K (hid (dom ((D, lstP acc) :: ω4)) H4) (.lst (vs ++ [v])) := ⟨_, rfl, m2.append (.cons o4 .nil)⟩
          refine ⟨vs, m1, by rw [m2.len]; exact Nat.lt_of_lt_of_le hz (by decide), ω4, _, hJ', ?_, (k2.trans (k5.trans k4)).trans (kp_upd List.mem_cons_self)⟩
          have oo := s4.own.put (i := 0) (p := D) (P := lstP acc) rfl ho
          exact ⟨s2.env.mono ((k5.trans k4).trans (kp_upd List.mem_cons_self)), oo⟩
        | false =>
          obtain ⟨ω4, e2, hJ'⟩ := f5
          subst e2
          exact ⟨ω4, acc, hJ', ⟨s2.env.mono k5, s5.own⟩, k2.trans k5⟩
      · rintro H' ⟨ω2, acc, hJ, s2, k2⟩
        rw [hr.len] at hJ
        exact q _ _ _ H' (je ω2 acc hJ D) s2 (k1.trans k2) rfl
theorem n_lcLwi (j : Nat) {test : Expr} (hc : X.calm = true) (hn : X.N.Nodup) (hb : BlkOk X.N X.env.scope scope [(x, j)])
    (h : N X ω δ iter fun ω1 c => ∃ ds, c = .dat (.list ds) ∧ ∃ J : Nat → Ow → List PyData → Prop, J 0 ω1 [] ∧
      (∀ i ω2 acc D d0, ds[i]? = some d0 → J i ω2 acc → BlkF X scope fun Y => NT Y ((D, lstP acc) :: ω2) ((δ.set j none).set j (some (.dat d0))) test fun ω3 k =>
        if k = true then BlkF X scope fun Y => N Y ω3 ((δ.set j none).set j (some (.dat d0))) elt fun ω3 c => ∃ d, c = .dat d ∧ acc.length < 100000 ∧ ∃ ω4, ω3 = (D, lstP acc) :: ω4 ∧ J (i + 1) ω4 (acc ++ [d]) else ∃ ω4, ω3 = (D, lstP acc) :: ω4 ∧ J (i + 1) ω4 acc) ∧
      ∀ ω2 acc, J ds.length ω2 acc → ∀ D, Φ ((D, lstP acc) :: ω2) (.raw (.ref D)))
    (hgt : BlkF X scope fun Y => PG Y (.Name x p1) (gName j)) (hs : ∀ y, foldedSetIterable iter X.env y = pure y := by intro _; rfl) : N X ω δ (.ListComp elt [{ target := .Name x p1, iter := iter, ifs := [test], is_async := 0 }] scope pos) Φ :=
  n_lift (pe_lc (own := [(x, j)]) (g := gName j) (tt := fun σ H Q => BlkF X scope fun Y => WT Y test σ H Q) (te := fun σ H Q => BlkF X scope fun Y => WE Y elt σ H Q) hc hn (pi_list (WE.pe X iter)) hb hgt (fun s H C cl fp => pts_one ⟨fun pins s' σ' H' Q I q => q s H C cl fp pins s' I⟩) (fun s H C cl fp => ⟨fun pins s' σ' H' Q I q => q s H C cl fp pins s' I⟩) hs) fun σ H Q s q => t_lcLwi j h s q
end
end DL

namespace DL
open PySem PySem.Spec L2 PyProof.Rows
/-! ## own operators of instances -/
section
variable {X : Cx} {pins : List (Addr × Obj)} {σ : L2.St} {H : Hp} {s : Shared} {A : Around} {j : Nat} {f : Addr} {fd : FuncData} {ps : List Str} {C : Con} {vs : List V} {us : List Value} {Q : VK}
theorem call_own (G : FnOk X.prog X.w X.K X.mg X.base CX0 j f fd ps (spD X.K C)) (hb : Binds X.K fd ps []) (hr : Room j A) (e0 : Env0 X.prog X.w X.K X.mg X.base A X.stack s H) (I : Inv X pins σ H s) (rv : Vals vs us) (hl : us.length = ps.length)
    (sp : spD X.K C vs H Q fun _ _ _ => False) : wpAny (model X.prog X.w) A (call (.ref f) us) (EP X pins σ Q) X.xe s := by
  have hbs := hb s us I.kIn (by rw [List.append_nil]; exact hl)
  rw [List.append_nil] at hbs
  refine wpAny_call (codeAny_mono (G.run A X.stack s H ⟨us, []⟩ us vs _ _ hr e0 hbs rv sp) fun r s' hq => ?_)
  cases r with
  | error er => exact hq.elim
  | ok fl =>
    cases fl with
    | ret u => exact I.after hq
    | next => exact hq.elim
    | brk => exact hq.elim
    | cont => exact hq.elim
end
theorem HasM.fnIn {K : PySem.W.Frag} {mg : Str → Option Value} {cx m qual : Str} {st : Stmt} {ps : List Str} (F : HasM K mg cx m qual st ps) : ∀ f, PySem.W.findIn K (.ref (clsA mg cx)) m = some (some (.ref f)) → PySem.W.fnIn K f = true := fun f h => by
  obtain ⟨f', fd, G, M, _⟩ := F.ex
  rw [M.at_] at h
  cases h
  obtain ⟨_, _, _, _, _, _, _, _, _, _, hl, _⟩ := G.ex
  unfold PySem.W.fnIn
  rw [hl]
section
variable {X : Cx} {ω : Ow} {δ : Env} {a b e : Expr} {Φ : Ow → Cell → Prop} {pos p1 p2 p3 : Pos} {cx qual pa : Str} {st : Stmt} {ps : List Str} {j k : Nat} {C : Con} {E : En}
/-- o[e], o an instance with its own __getitem__ -/
def rSub (K : PySem.W.Frag) (C : Addr) (D : Con) : R2 := fun x y H Q => ∃ a dx vs, x = .ref a ∧ H a = some (.ins C dx vs) ∧ spD K D [x, y] H Q fun _ _ _ => False
theorem n_subI (R : RdM X.prog X.w X.K X.mg X.base j cx "__getitem__" ["self", pa] C) (hM : HasM X.K X.mg cx "__getitem__" qual st ps) (hr : Room k X.A)
    (h : N X ω δ a fun ω1 c1 => N X ω1 δ b fun ω2 c2 => ∃ fs, c1 = .dat (insD (clsA X.mg cx) fs) ∧ C [c1, c2] ω2 Φ) (hjk : j + 1 ≤ k := by decide)
    (hsl : ∀ o i, subscripted b true o i = runValue (.builtin "lifetime.subscript" ⟨[o, i], []⟩) := by intro _ _; with_unfolding_all rfl) : N X ω δ (.Subscript a b pos) Φ := by
  obtain ⟨f, fd, G, hm, hb⟩ := R.ex
  have p : PE X (.Subscript a b pos) (tOp (rSub X.K (clsA X.mg cx) C) (WE X a) (WE X b)) := by
    refine ⟨fun pins s σ H Q I h => ?_⟩
    refine Subscript_ (binT (WE.pe X a) (WE.pe X b) I h fun v u s2 x y H2 I2 rx ry q => ?_)
    obtain ⟨ad, dx, vs, rfl, e1, sp⟩ := q
    obtain rfl : v = .ref ad := rx
    obtain ⟨mA, O, r, _, _, _⟩ := ins_get I2.hok e1
    obtain ⟨od, J, _⟩ := O.look
    obtain ⟨mm, fr⟩ := I2.fr
    exact PySem.W.sub_K (h₀ := X.base) fr I2.ok.mod.kin J hm.at_ (hM.fnIn f hm.at_) hm.fn (call_own (vs := [.ref ad, y]) (us := [.ref ad, u]) G hb (hr.mono hjk).in1 I2.env0.in1 I2 (.cons rfl (.cons ry .nil)) rfl sp) (hsl _ _)
  refine n_op2 p (h.imp fun ω1 c1 h1 => h1.imp fun ω2 c2 ⟨fs, e1, f2⟩ x y σ H Q s o1 o2 q => ?_)
  subst e1
  obtain ⟨ad, dx, vs, ev, h1, h2, h3⟩ := ins_of o1
  subst ev
  exact ⟨ad, dx, vs, rfl, (hid_some h1).2, ω2, _, Φ, .cons o1 (.cons o2 .nil), s.own, f2, fun ω3 c v H3 f3 s3 k3 o3 => q ω3 c v H3 f3 ⟨s.env.mono k3, s3⟩ k3 o3⟩
/-- a == b, both of a class with its own __eq__ -/
def rEqI (K : PySem.W.Frag) (C : Addr) (D : Con) (g : Bool → Bool) : R2 := fun x y H Q => ∃ a dx vs b dy ws, x = .ref a ∧ y = .ref b ∧ H a = some (.ins C dx vs) ∧ H b = some (.ins C dy ws) ∧ spD K D [x, y] H (fun v H2 => ∃ k, v = .bl k ∧ Q (.bl (g k)) H2) fun _ _ _ => False
theorem op_eqI (R : RdM X.prog X.w X.K X.mg X.base j cx "__eq__" ["self", pa] C) (hr : Room k X.A) (hjk : j ≤ k) : OpR X (compareOp .Eq) (rEqI X.K (clsA X.mg cx) C id) := by
  obtain ⟨f, fd, G, hm, hb⟩ := R.ex
  intro pins s σ H x y v u Q I rx ry q
  obtain ⟨ad, dx, vs, bd, dy, ws, rfl, rfl, e1, e2, sp⟩ := q
  obtain rfl : v = .ref ad := rx
  obtain rfl : u = .ref bd := ry
  obtain ⟨mA, O, _⟩ := ins_get I.hok e1
  obtain ⟨mB, O', _⟩ := ins_get I.hok e2
  obtain ⟨od, J, _⟩ := O.look
  obtain ⟨od', J', _⟩ := O'.look
  obtain ⟨mm, fr⟩ := I.fr
  show wpAny (model X.prog X.w) X.A (richCompare .Eq (.ref ad) (.ref bd)) (EP X pins σ Q) X.xe s
  refine PySem.W.cmp_K (op := .Eq) (tb := .ref (clsA X.mg cx)) (hr.mono hjk).units0 fr I.ok.mod.kin J J'.type (by simp [PySem.W.notFirst]) hm.at_ hm.fn ?_
  refine wpAny_mono (call_own (vs := [.ref ad, .ref bd]) (us := [.ref ad, .ref bd]) G hb (hr.mono hjk) I.env0 I (.cons rfl (.cons rfl .nil)) rfl sp) (fun r s' z => ?_) fun _ _ z => z
  obtain ⟨v, H', I', rv, k, ev, q⟩ := z
  subst ev
  cases rv
  exact ⟨.bl k, H', I', rfl, q⟩
theorem op2_eqI {ω : Ow} {g : Bool → Bool} {c1 c2 : Cell} (h : ∃ fs gs, c1 = .dat (insD (clsA X.mg cx) fs) ∧ c2 = .dat (insD (clsA X.mg cx) gs) ∧ C [c1, c2] ω fun ω3 c3 => ∃ k : Bool, c3 = .dat (.bool k) ∧ Φ ω3 (.dat (.bool (g k)))) : Op2 X (rEqI X.K (clsA X.mg cx) C g) ω δ c1 c2 Φ := fun x y σ H Q s o1 o2 q => by
  obtain ⟨fs, gs, e1, e2, f2⟩ := h
  subst e1; subst e2
  obtain ⟨ad, dx, vs, ev, h1, h2, h3⟩ := ins_of o1
  subst ev
  obtain ⟨bd, dy, ws, ev, h1', h2', h3'⟩ := ins_of o2
  subst ev
  exact ⟨ad, dx, vs, bd, dy, ws, rfl, rfl, (hid_some h1).2, (hid_some h1').2, ω, _, _, .cons o1 (.cons o2 .nil), s.own, f2, fun ω3 c v H3 ⟨k, ec, f3⟩ s3 k3 o3 => by
    subst ec
    cases o3
    exact ⟨k, rfl, q ω3 _ _ H3 f3 ⟨s.env.mono k3, s3⟩ k3 (Rp.bl _)⟩⟩
theorem n_eqI (R : RdM X.prog X.w X.K X.mg X.base j cx "__eq__" ["self", pa] C) (hr : Room k X.A)
    (h : N X ω δ a fun ω1 c1 => N X ω1 δ b fun ω2 c2 => ∃ fs gs, c1 = .dat (insD (clsA X.mg cx) fs) ∧ c2 = .dat (insD (clsA X.mg cx) gs) ∧ C [c1, c2] ω2 fun ω3 c3 => ∃ k : Bool, c3 = .dat (.bool k) ∧ Φ ω3 (.dat (.bool k))) (hjk : j ≤ k := by decide) : N X ω δ (.Compare a [.Eq] [b] pos) Φ :=
  n_cop (op_eqI R hr hjk) (nomark _) (h.imp fun _ _ h1 => h1.imp fun _ _ h2 => op2_eqI (g := id) h2)
/-- what a != b asks: no __ne__ of its own -/
structure NoNe (K : PySem.W.Frag) (C : Addr) : Prop where
  ne : PySem.W.findIn K (.ref C) "__ne__" = some (some (.builtin "object.__ne__"))
  ob : PySem.W.mroIn K C (.type "object") = some true
/-- the machine's own != of an instance: the other answer of its __eq__ -/
theorem entry_ne {Md : Model} {Ar : Around} {Ee : Value → Shared → Prop} {sh : Shared} {K : PySem.W.Frag} {p q D f : Addr} {ob : Obj} {od : Option Obj} (room : Ar.units < cLine) (kin : K.In sh.heap) (at_ : PySem.W.InstAt sh.heap p ob D od) (own : PySem.W.findIn K (.ref D) "__eq__" = some (some (.ref f))) (fn : PySem.W.isFn K (.ref f) = true) {R : Fin → Shared → Prop}
    (run : wpAny Md Ar (call (.ref f) [.ref p, .ref q]) (fun v s' => ∃ b, v = .bool b ∧ R (.done (.ret (.bool (!b)))) s') Ee sh) : wpAny Md Ar (Builtin.«object.__ne__» ⟨[.ref p, .ref q], []⟩) R Ee sh := by
  have ask : wpAny Md Ar (callSpecialIfBound? (.ref p) (Str.ofString "__eq__") [.ref q]) (fun r s' => ∃ b, r = some (.bool b) ∧ R (.done (.ret (.bool (!b)))) s') Ee sh :=
    PySem.W.ifBound_K kin at_ own fn (wpAny_mono run (fun r s' ⟨b, e, z⟩ => ⟨b, congrArg some e, z⟩) fun _ _ z => z)
  delta Builtin.«object.__ne__»
  repeat (first | (refine wpAny_bind (wpAny_mono ask (fun r s' z => ?_) fun _ _ e => e); clear ask; obtain ⟨b, e, z⟩ := z; subst e) | with_reducible exact z | exact wpAny_truthy_bool z | with_reducible (refine wpAny_cRoomFor room ?_) | (refine wpAny_bind (m := truthy (.bool _)) (wpAny_truthy_bool ?_)) | wp_step)
theorem ifBound_objNe {Md : Model} {Ar : Around} {Ee : Value → Shared → Prop} {sh : Shared} {K : PySem.W.Frag} {p D : Addr} {ob : Obj} {od : Option Obj} {more : List Value} {R : Option Value → Shared → Prop} (kin : K.In sh.heap) (at_ : PySem.W.InstAt sh.heap p ob D od) (own : PySem.W.findIn K (.ref D) "__ne__" = some (some (.builtin "object.__ne__")))
    (run : wpAny Md Ar (call (.builtin "object.__ne__") (.ref p :: more)) (fun v => R (some v)) Ee sh) : wpAny Md Ar (callSpecialIfBound? (.ref p) "__ne__" more) R Ee sh := by
  have done : wpAny Md Ar (call (.builtin "object.__ne__") ([.ref p] ++ more) >>= fun v => pure (some v)) R Ee sh := wpAny_bind (wpAny_mono run (fun _ _ z => wpAny_pure z) fun _ _ z => z)
  have bound : wpAny Md Ar (bindSpecialIfBound? (.ref p) "__ne__") (fun r s' => s' = sh ∧ r = some (.builtin "object.__ne__", [.ref p])) Ee sh := by
    delta bindSpecialIfBound?
    refine wpAny_bind (wpAny_bind (at_.type.here ((PySem.W.looks_findIn kin own).here ?_)))
    have made : wpAny Md Ar (bindSpecial (.builtin "object.__ne__") (.ref p) >>= fun b => pure (some b)) (fun r s' => s' = sh ∧ r = some (.builtin "object.__ne__", [.ref p])) Ee sh := wpAny_bind (wpAny_of_eq (F.cmp_object.ne.bind _) (wpAny_pure ⟨rfl, rfl⟩))
    refine wpAny_bind (wpAny_askSetting ?_)
    split
    · exact made
    · exact wpAny_tryCatch made
  delta callSpecialIfBound?
  refine wpAny_holding (wpAny_bind (wpAny_mono bound (fun r s' z => ?_) fun _ _ z => z))
  obtain ⟨rfl, rfl⟩ := z
  exact done
theorem op_neI (R : RdM X.prog X.w X.K X.mg X.base j cx "__eq__" ["self", pa] C) (hN : NoNe X.K (clsA X.mg cx)) (hr : Room k X.A) (hjk : j + 1 ≤ k) : OpR X (compareOp .NotEq) (rEqI X.K (clsA X.mg cx) C (!·)) := by
  obtain ⟨f, fd, G, hm, hb⟩ := R.ex
  intro pins s σ H x y v u Q I rx ry q
  obtain ⟨ad, dx, vs, bd, dy, ws, rfl, rfl, e1, e2, sp⟩ := q
  obtain rfl : v = .ref ad := rx
  obtain rfl : u = .ref bd := ry
  obtain ⟨mA, O, _⟩ := ins_get I.hok e1
  obtain ⟨mB, O', _⟩ := ins_get I.hok e2
  obtain ⟨od, J, _⟩ := O.look
  obtain ⟨od', J', _⟩ := O'.look
  obtain ⟨mm, fr⟩ := I.fr
  have hr1 := (hr.mono hjk).in1
  have call1 : wpAny (model X.prog X.w) X.A.in1 (call (.ref f) [.ref ad, .ref bd]) (fun v s' => ∃ b, v = .bool b ∧ EP X pins σ Q (.bool (!b)) s') X.xe s :=
    wpAny_mono (call_own (vs := [.ref ad, .ref bd]) (us := [.ref ad, .ref bd]) G hb hr1 I.env0.in1 I (.cons rfl (.cons rfl .nil)) rfl sp) (fun r s' z => by
      obtain ⟨v, H', I', rv, k, ev, q⟩ := z
      subst ev
      cases rv
      exact ⟨k, rfl, .bl (!k), H', I', rfl, q⟩) fun _ _ z => z
  have ne1 : wpAny (model X.prog X.w) X.A (call (.builtin "object.__ne__") [.ref ad, .ref bd]) (fun v s' => ∃ b, v = .bool b ∧ EP X pins σ Q (.bool b) s') X.xe s :=
    wpAny_call (codeAny_call_builtin F.cmp_object.ne.plain F.cmpEntry_ne (PySem.W.check_slot F.cmpKind_ne F.cmpSplit_ne (J.type.andThen (PySem.W.looks_mroIn I.kIn hN.ob)) (F.cmpArgs_ne _ _) (entry_ne hr1.units0 I.kIn J hm.at_ hm.fn (wpAny_mono call1 (fun v s' ⟨b, e, z⟩ => ⟨b, e, !b, rfl, z⟩) fun _ _ z => z))))
  have one : wpAny (model X.prog X.w) X.A (tryCompare (.ref ad) "__ne__" (.ref bd)) (fun r s' => ∃ v, r = some v ∧ EP X pins σ Q v s') X.xe s := by
    unfold tryCompare
    refine wpAny_bind (ifBound_objNe I.kIn J hN.ne (wpAny_mono ne1 (fun v s' ⟨b, e, z⟩ => ?_) fun _ _ z => z))
    subst e
    exact wpAny_pure ⟨_, rfl, z⟩
  show wpAny (model X.prog X.w) X.A (richCompare .NotEq (.ref ad) (.ref bd)) (EP X pins σ Q) X.xe s
  delta richCompare
  dsimp only
  rw [oneThing_ref]
  refine wpAny_holding (wpAny_bind (wpAny_cRoomFor (hr.mono hjk).units0 (wpAny_bind ?_)))
  rw [cmpInfo_NotEq]
  refine J.type.here (wpAny_bind (J'.type.here ?_))
  rw [show (Value.ref (clsA X.mg cx) != Value.ref (clsA X.mg cx)) = false from by simp]
  repeat (first | (with_reducible refine wpAny_bind (wpAny_pure ?_)) | rw [if_neg Bool.false_ne_true])
  exact wpAny_bind (wpAny_mono one (fun r s' ⟨v, e, hq⟩ => by subst e; exact wpAny_pure hq) fun _ _ z => z)
theorem n_neI (R : RdM X.prog X.w X.K X.mg X.base j cx "__eq__" ["self", pa] C) (hN : NoNe X.K (clsA X.mg cx)) (hr : Room k X.A)
    (h : N X ω δ a fun ω1 c1 => N X ω1 δ b fun ω2 c2 => ∃ fs gs, c1 = .dat (insD (clsA X.mg cx) fs) ∧ c2 = .dat (insD (clsA X.mg cx) gs) ∧ C [c1, c2] ω2 fun ω3 c3 => ∃ k : Bool, c3 = .dat (.bool k) ∧ Φ ω3 (.dat (.bool (!k)))) (hjk : j + 1 ≤ k := by decide) : N X ω δ (.Compare a [.NotEq] [b] pos) Φ :=
  n_cop (op_neI R hN hr hjk) (nomark _) (h.imp fun _ _ h1 => h1.imp fun _ _ h2 => op2_eqI (g := (!·)) h2)
theorem nt_neI {Ψ : Ow → Bool → Prop} (R : RdM X.prog X.w X.K X.mg X.base j cx "__eq__" ["self", pa] C) (hN : NoNe X.K (clsA X.mg cx)) (hr : Room k X.A)
    (h : N X ω δ a fun ω1 c1 => N X ω1 δ b fun ω2 c2 => ∃ fs gs, c1 = .dat (insD (clsA X.mg cx) fs) ∧ c2 = .dat (insD (clsA X.mg cx) gs) ∧ C [c1, c2] ω2 fun ω3 c3 => ∃ k : Bool, c3 = .dat (.bool k) ∧ isB ω3 (fun ω4 k => Ψ ω4 k) (.dat (.bool (!k)))) (hjk : j + 1 ≤ k := by decide) : NT X ω δ (.Compare a [.NotEq] [b] pos) Ψ :=
  nt_cop (op_neI R hN hr hjk) (nomark _) (h.imp fun _ _ h1 => h1.imp fun _ _ h2 => op2_eqI (g := (!·)) h2)
theorem nt_eqI {Ψ : Ow → Bool → Prop} (R : RdM X.prog X.w X.K X.mg X.base j cx "__eq__" ["self", pa] C) (hr : Room k X.A)
    (h : N X ω δ a fun ω1 c1 => N X ω1 δ b fun ω2 c2 => ∃ fs gs, c1 = .dat (insD (clsA X.mg cx) fs) ∧ c2 = .dat (insD (clsA X.mg cx) gs) ∧ C [c1, c2] ω2 fun ω3 c3 => ∃ k : Bool, c3 = .dat (.bool k) ∧ isB ω3 (fun ω4 k => Ψ ω4 k) (.dat (.bool k))) (hjk : j ≤ k := by decide) : NT X ω δ (.Compare a [.Eq] [b] pos) Ψ :=
  nt_cop (op_eqI R hr hjk) (nomark _) (h.imp fun _ _ h1 => h1.imp fun _ _ h2 => op2_eqI (g := id) h2)
/-- isinstance(o, Cls), o of that class -/
theorem call_isOwn {D : Addr} (me : PySem.W.kitOne X.K (.ref D) (.ref D) = some true) : CallR X (.builtin "isinstance") (fun xs H Q => ∃ o dx vs, xs = [.ref o, .ref D] ∧ H o = some (.ins D dx vs) ∧ InsOk X.K D ∧ Q (.bl true) H) := by
  intro pins s σ H xs us Q I r h
  obtain ⟨o, dx, vs, rfl, ho, ok, q⟩ := h
  obtain ⟨u, u2, rfl, ru, ru2⟩ := vals2 r
  cases ru2
  exact isinst_ok I ru (TyOf.ins ho ok.cls ok.cg ok.hn ok.tk ok.ob) me fun n => ⟨.bl true, H, I.tok _, rfl, q⟩
theorem n_isC {y : Str} (me : PySem.W.kitOne X.K (.ref (clsA X.mg y)) (.ref (clsA X.mg y)) = some true) (hat : X.mg y = some (.ref (clsA X.mg y))) (hm : X.mg "isinstance" = none) (h : N X ω δ a fun ω1 c => ∃ fs, c = .dat (insD (clsA X.mg y) fs) ∧ Φ ω1 (.dat (.bool true))) (hg : Gl X "isinstance" := by rfl) (hgy : Gl X y := by rfl) (hdb : (y == ("__debug__" : Str)) = false := by decide)
    (he : starEach [a, .Name y p2] X.env = (false, eval a X.env) :: starEach [.Name y p2] X.env := by rfl) (he2 : starEach [.Name y p2] X.env = (false, eval (.Name y p2) X.env) :: starEach [] X.env := by rfl) (hpl : (backTo pos (starEach [.Name y p2] X.env)).any (·.1) = false := by rfl) : N X ω δ (.Call (.Name "isinstance" p1) [a, .Name y p2] [] pos) Φ :=
  n_lift (pe_callB (call_isOwn me) hg hm (by decide +kernel) (pa_cons (WE.pe X a) (pa_cons (pe_glob (v := .ref (clsA X.mg y)) hgy hat rfl hdb) pa_nil he2) he) (by decide) (by decide) he hpl) fun σ H Q s q => h σ H _ s fun ω1 c v H1 ⟨fs, ec, f1⟩ s1 k1 o1 => by
    subst ec
    obtain ⟨ad, dx, vs, ev, h1, h2, h3⟩ := ins_of o1
    subst ev
    exact ⟨ad, dx, vs, rfl, (hid_some h1).2, h2, q ω1 _ _ H1 f1 s1 k1 (Rp.bl _)⟩
/-- what isinstance and != ask of an own class -/
structure HasE (K : PySem.W.Frag) (mg : Str → Option Value) (x : Str) : Prop where
  at_ : mg x = some (.ref (clsA mg x))
  me : PySem.W.kitOne K (.ref (clsA mg x)) (.ref (clsA mg x)) = some true
  ne : NoNe K (clsA mg x)
theorem hasE_mk {K : PySem.W.Frag} {mg : Str → Option Value} {x : Str} {C : Addr} {h : Heap} (X : K.In h) (G : h.Ns mainGlobals mg) (a : PySem.W.nsIn K mainGlobals x = some (some (.ref C))) (ne : PySem.W.findIn K (.ref C) "__ne__" = some (some (.builtin "object.__ne__"))) (ob : PySem.W.mroIn K C (.type "object") = some true) : HasE K mg x := by
  have e := PySem.W.mg_of X G a
  have c := clsA_of e
  exact ⟨by rw [c]; exact e, by unfold PySem.W.kitOne; exact if_pos (by simp), by rw [c]; exact ⟨ne, ob⟩⟩
end
end DL

namespace DL
open PySem PySem.Spec L2
/-! ## sorted(tuples of integers) -/
def tupD (ns : List Int) : PyData := .tuple (ns.map .int)
theorem rpa_ints {K : PySem.W.Frag} {H : Hp} : ∀ {xs : List V} {ns : List Int}, RpA K H xs (ns.map PyData.int) → xs = ns.map V.int
  | [], [], _ => rfl
  | [], _ :: _, h => by cases h
  | _ :: _, [], h => by cases h
  | x :: xs, n :: ns, h => by
    cases h with
    | cons h1 h2 =>
      cases h1
      rw [rpa_ints h2]
      rfl
theorem rpa_perm {K : PySem.W.Frag} {H : Hp} {α : Type} {g : α → PyData} {xs ys : List V} (p : ys.Perm xs) : ∀ {ps : List α}, RpA K H xs (ps.map g) → ∃ qs : List α, qs.Perm ps ∧ RpA K H ys (qs.map g) := by
  induction p with
  | nil => exact fun {ps} h => ⟨ps, List.Perm.refl _, h⟩
  | cons x p ih =>
    intro ps h
    cases ps with
    | nil => cases h
    | cons z r =>
      cases h with
      | cons h1 h2 =>
        obtain ⟨qs, g1, g2⟩ := ih h2
        exact ⟨z :: qs, g1.cons z, .cons h1 g2⟩
  | swap x y l =>
    intro ps h
    cases ps with
    | nil => cases h
    | cons z r =>
      cases r with
      | nil => cases h with | cons h1 h2 => cases h2
      | cons z2 r =>
        cases h with
        | cons h1 h2 =>
          cases h2 with
          | cons h2 h3 => exact ⟨z2 :: z :: r, List.Perm.swap .., .cons h2 (.cons h1 h3)⟩
  | trans p q ih1 ih2 =>
    intro ps h
    obtain ⟨qs, g1, g2⟩ := ih2 h
    obtain ⟨rs, g3, g4⟩ := ih1 g2
    exact ⟨rs, g3.trans g1, g4⟩
theorem rp_tupI {K : PySem.W.Frag} {H : Hp} {x : V} {ns : List Int} (h : Rp K H x (tupD ns)) : TupI K H x ns := by
  cases h with
  | tup sq ra =>
    rw [rpa_ints ra] at sq
    exact ⟨_, rfl, sq⟩
theorem rpa_pair {K : PySem.W.Frag} {H : Hp} {B : Int} : ∀ {ys : List V} {qs : List (List Int)}, RpA K H ys (qs.map tupD) → ys.Pairwise (fun x y => ∀ n m, TupI K H x n → TupI K H y m → TS.code B n ≤ TS.code B m) → qs.Pairwise fun n m => TS.code B n ≤ TS.code B m
  | [], [], _, _ => .nil
  | [], _ :: _, h, _ => by cases h
  | _ :: _, [], h, _ => by cases h
  | y :: ys, q :: qs, h, p => by
    cases h with
    | cons h1 h2 =>
      obtain ⟨p1, p2⟩ := List.pairwise_cons.mp p
      refine List.pairwise_cons.mpr ⟨fun m hm => ?_, rpa_pair h2 p2⟩
      obtain ⟨i, hi⟩ := List.getElem?_of_mem hm
      have hi' : (qs.map tupD)[i]? = some (tupD m) := by rw [List.getElem?_map, hi]; rfl
      obtain ⟨v, g1, g2⟩ := h2.get hi'
      exact p1 v (List.mem_of_getElem? g1) q m (rp_tupI h1) (rp_tupI g2)
section
variable {X : Cx} {ω : Ow} {δ : Env} {a : Expr} {Φ : Ow → Cell → Prop} {pos p1 : Pos}
theorem n_sortT (d : Nat) (B : Int) (hd : 1 ≤ d) (hm : X.mg "sorted" = none) (h : N X ω δ a fun ω1 c => ∃ ps : List (List Int), c = .dat (.list (ps.map tupD)) ∧ ps.length < 64 ∧ (∀ n ∈ ps, n.length = d ∧ TS.Bd B n) ∧ ∀ qs : List (List Int), qs.Perm ps → qs.Pairwise (fun n m => TS.code B n ≤ TS.code B m) → Φ ω1 (.dat (.list (qs.map tupD))))
    (hg : Gl X "sorted" := by rfl) (he : starEach [a] X.env = (false, eval a X.env) :: starEach [] X.env := by rfl) : N X ω δ (.Call (.Name "sorted" p1) [a] [] pos) Φ :=
  n_lift (pe_callB (cr_sortT (d := d) (B := B) hd) hg hm (by decide +kernel) (pa_cons (WE.pe X a) pa_nil he) (by decide) (by decide) he (by rfl)) fun σ H Q s q => h σ H _ s fun ω1 c v H1 ⟨ps, ec, hl, hps, f1⟩ s1 k1 o1 => by
    subst ec
    cases o1 with
    | @lst l xs _ hx hr =>
      have hr0 : RpA X.K H1 xs (ps.map tupD) := hr.mono fun b u h => (hid_some h).2
      refine ⟨l, xs, rfl, SqL.of (hid_some hx).2, by rw [hr.len, List.length_map]; exact hl, fun x hxm => ?_, fun ys p hp hpw hn => ?_⟩
      · obtain ⟨i, hi⟩ := List.getElem?_of_mem hxm
        obtain ⟨d0, g1, g2⟩ := hr0.get' hi
        rw [List.getElem?_map] at g1
        obtain ⟨n, hn1, rfl⟩ := Option.map_eq_some_iff.mp g1
        exact ⟨n, rp_tupI g2, hps n (List.mem_of_getElem? hn1)⟩
      · obtain ⟨qs, g1, g2⟩ := rpa_perm hp hr
        exact q ω1 _ _ _ (f1 qs g1 (rpa_pair (g2.mono fun b u h => (hid_some h).2) hpw)) (s1.new hn) (k1.trans (kp_new s1.own hn)) (new_lst s1.own hn g2)
end
end DL

namespace DL
open PySem PySem.Spec L2
theorem wipe3 {σ : L2.St} {j l : Nat} {v u : Option V} (h : j ≠ l) : ((((((σ.set l none).set j none).set j v).set l u).set l none).set j none) = (σ.set l none).set j none := by
  apply List.ext_getElem?
  intro i
  simp only [List.getElem?_set, List.length_set]
  by_cases h1 : j = i
  · subst h1
    simp
  · by_cases h2 : l = i
    · subst h2
      simp [h1]
    · simp [h1, h2]
section
variable {X : Cx} {ω : Ow} {δ : Env} {a elt test : Expr} {Φ : Ow → Cell → Prop} {pos p1 p2 p3 p4 p5 : Pos} {x y : Str} {scope : Scope} {kk : Nat}
/-- [elt for x, y in enumerate(a list) if test] -/
theorem n_lcEni (j l : Nat) (hjl : j ≠ l) (hc : X.calm = true) (hn : X.N.Nodup) (hm : X.mg "enumerate" = none) (hb : BlkOk X.N X.env.scope scope [(x, j), (y, l)])
    (h : N X ω δ a fun ω1 c => ∃ ds, c = .dat (.list ds) ∧ ∃ J : Nat → Ow → List PyData → Prop, J 0 ω1 [] ∧
      (∀ i ω2 acc D d0, ds[i]? = some d0 → J i ω2 acc → BlkF X scope fun Y => NT Y ((D, lstP acc) :: ω2) ((((δ.set l none).set j none).set j (some (.dat (.int (i : Int))))).set l (some (.dat d0))) test fun ω3 k =>
        if k = true then BlkF X scope fun Y => N Y ω3 ((((δ.set l none).set j none).set j (some (.dat (.int (i : Int))))).set l (some (.dat d0))) elt fun ω3 c => ∃ d, c = .dat d ∧ acc.length < 100000 ∧ ∃ ω4, ω3 = (D, lstP acc) :: ω4 ∧ J (i + 1) ω4 (acc ++ [d]) else ∃ ω4, ω3 = (D, lstP acc) :: ω4 ∧ J (i + 1) ω4 acc) ∧
      ∀ ω2 acc, J ds.length ω2 acc → Φ ω2 (.dat (.list acc)))
    (hgt : BlkF X scope fun Y => PG Y (.Tuple [.Name x p1, .Name y p2] kk p3) (gTup X.K 2 (gCons (gName j) (gCons (gName l) gNil)))) (hg : Gl X "enumerate" := by rfl) (ha : starEach [a] X.env = [(false, eval a X.env)] := by rfl) (ha2 : starEach [a] X.env = (false, eval a X.env) :: starEach [] X.env := by rfl)
    (hs : ∀ z, foldedSetIterable (.Call (.Name "enumerate" p4) [a] [] p5) X.env z = pure z := by intro _; rfl) : N X ω δ (.ListComp elt [{ target := .Tuple [.Name x p1, .Name y p2] kk p3, iter := .Call (.Name "enumerate" p4) [a] [] p5, ifs := [test], is_async := 0 }] scope pos) Φ :=
  n_lift (pe_lc (own := [(x, j), (y, l)]) (g := gTup X.K 2 (gCons (gName j) (gCons (gName l) gNil))) (tt := fun σ H Q => BlkF X scope fun Y => WT Y test σ H Q) (te := fun σ H Q => BlkF X scope fun Y => WE Y elt σ H Q) hc hn (pi_enum hg hm (pa_cons (WE.pe X a) pa_nil ha2) ha) hb hgt
    (fun s H C cl fp => pts_one ⟨fun pins s' σ' H' Q I q => q s H C cl fp pins s' I⟩) (fun s H C cl fp => ⟨fun pins s' σ' H' Q I q => q s H C cl fp pins s' I⟩) hs) fun σ H Q s q => h σ H _ s fun ω1 c v H1 ⟨ds, e1, J, j0, jt, je⟩ s1 k1 o1 => by
    subst e1
    cases o1 with
    | @lst qa xs _ hl hr =>
      refine ⟨qa, xs, rfl, SqL.of (hid_some hl).2, fun D hD => ?_⟩
      have hD0 : (lstP []).ok X.K (hid (dom ω1) H1) (.lst []) := ⟨[], rfl, .nil⟩
      refine ⟨fun i m H' => m = xs.length - i ∧ i ≤ xs.length ∧ ∃ ω2 acc, J i ω2 acc ∧ StOk X.K ((D, lstP acc) :: ω2) δ σ H' ∧ Kp (dom ω1) H1 (D :: dom ω2) H', ⟨xs.length, by simp, Nat.zero_le _, ω1, [], j0, s1.cons hD hD0, (s1.own.cons hD hD0).2⟩, ?_⟩
      rintro i m H' ⟨rfl, hi, ω2, acc, hJ, s2, k2⟩
      have hq : SqL X.K H' qa xs := SqL.of (hid_some (k2 _ _ hl)).2
      by_cases hlt : i < xs.length
      rotate_left
      · have e : i = xs.length := by omega
        subst e
        rw [hr.len] at hJ
        exact .inl ⟨⟨xs, hq, Nat.le_refl _⟩, q _ _ _ H' (je ω2 acc hJ) s2.drop (k1.trans (k2.trans (kp_drop (P := lstP acc)))) (own_lst s2.own)⟩
      have hxi : xs[i]? = some xs[i] := List.getElem?_eq_getElem hlt
      obtain ⟨d, hd, rd⟩ := hr.get' hxi
      refine .inr ⟨⟨xs, _, hq, hxi⟩, fun H3 => ∃ ω3 acc3, J (i + 1) ω3 acc3 ∧ StOk X.K ((D, lstP acc3) :: ω3) δ σ H3 ∧ Kp (dom ω1) H1 (D :: dom ω3) H3, fun H3 p => ⟨xs.length - (i + 1), by omega, rfl, hlt, p⟩, fun u H3 yy => ?_⟩
      obtain ⟨T, z, rfl, hT, rfl, hz⟩ := yy
      have hz2 := hz xs hq
      rw [hxi] at hz2
      cases hz2
      refine ⟨T, _, rfl, .inl (.inl upd_same), rfl, _, _, rfl, _, _, rfl, rfl, wipe3 hjl, ?_⟩
      intro s' H9 C cl fp
      have s3 := s2.new (o := .tup [.int (i : Nat), xs[i]]) hT
      have kn := kp_new (o := .tup [.int (i : Nat), xs[i]]) s2.own hT
      have sB : StOk X.K ((D, lstP acc) :: ω2) ((((δ.set l none).set j none).set j (some (.dat (.int (i : Int))))).set l (some (.dat d))) ((((wipe σ [j, l])).set j (some (.int (i : Nat)))).set l (some xs[i])) (upd H' T (.tup [.int (i : Nat), xs[i]])) :=
        ⟨(((s3.env.wipe l).wipe j).set (c := .dat (.int (i : Int))) (Rp.int _) j).set (c := .dat d) (rd.mono (k2.trans kn)) l, s3.own⟩
      refine jt i ω2 acc D d hd hJ s' H9 C cl fp _ _ _ sB fun ω5 k H5 f5 s5 k5 => ?_
      have k6 := k2.trans (kn.trans k5)
      cases k with
      | true =>
        refine fun s6 H6 C6 cl6 fp6 => f5 s6 H6 C6 cl6 fp6 _ _ _ s5 fun ω3 c v H4 ⟨d, e1, hz, ω4, e2, hJ'⟩ s4 k4 o4 => ?_
        subst e1; subst e2
        obtain ⟨u, m1, vs, rfl, m2⟩ := s4.own.at_ D _ List.mem_cons_self
        have ho : (lstP (acc ++ [d])).ok X.K (hid (dom ((D, lstP acc) :: ω4)) H4) (.lst (vs ++ [v])) := ⟨_, rfl, m2.append (.cons o4 .nil)⟩
        have oo := s4.own.put (i := 0) (p := D) (P := lstP acc) rfl ho
        have kk := Kp.trans k4 (kp_upd (H := H4) (o := .lst (vs ++ [v])) (List.mem_cons_self (a := D) (l := dom ω4)))
        exact ⟨vs, m1, by rw [m2.len]; exact Nat.lt_of_lt_of_le hz (by decide), ω4, _, hJ', ⟨s2.env.mono (kn.trans (k5.trans kk)), oo⟩, k6.trans kk⟩
      | false =>
        obtain ⟨ω4, e2, hJ'⟩ := f5
        subst e2
        exact ⟨ω4, acc, hJ', ⟨s2.env.mono (kn.trans k5), s5.own⟩, k6⟩
end
section
variable {X : Cx} {ω : Ow} {δ : Env} {elt iter : Expr} {Φ : Ow → Cell → Prop} {pos p1 p2 p3 : Pos} {x y : Str} {scope : Scope} {kk : Nat}
/-- [elt for x, y in a list of pairs] -/
theorem t_lcLp (j l : Nat) (hjl : j ≠ l)
    (h : N X ω δ iter fun ω1 c => ∃ ds, c = .dat (.list ds) ∧ (∀ d ∈ ds, ∃ d1 d2, d = .tuple [d1, d2]) ∧ ∃ J : Nat → Ow → List PyData → Prop, J 0 ω1 [] ∧
      (∀ i ω2 acc D d1 d2, ds[i]? = some (.tuple [d1, d2]) → J i ω2 acc → BlkF X scope fun Y => N Y ((D, lstP acc) :: ω2) ((((δ.set l none).set j none).set j (some (.dat d1))).set l (some (.dat d2))) elt fun ω3 c => ∃ d, c = .dat d ∧ acc.length < 100000 ∧ ∃ ω4, ω3 = (D, lstP acc) :: ω4 ∧ J (i + 1) ω4 (acc ++ [d])) ∧
      ∀ ω2 acc, J ds.length ω2 acc → Φ ω2 (.dat (.list acc))) {σ : St} {H : Hp} {Q : VK} (s : StOk X.K ω δ σ H) (q : ∀ ω' c v H', Φ ω' c → StOk X.K ω' δ σ H' → Kp (dom ω) H (dom ω') H' → CellOk X.K (dom ω') H' v c → Q v H') :
    tLc (iList X.K (WE X iter)) (gTup X.K 2 (gCons (gName j) (gCons (gName l) gNil))) tYes (fun σ H Q => BlkF X scope fun Y => WE Y elt σ H Q) [j, l] σ H Q :=
  h σ H _ s fun ω1 c v H1 ⟨ds, e1, hpr, J, j0, jt, je⟩ s1 k1 o1 => by
    subst e1
    cases o1 with
    | @lst qa xs _ hl hr =>
      refine ⟨qa, rfl, ⟨xs, SqL.of (hid_some hl).2⟩, fun D hD => ?_⟩
      have hD0 : (lstP []).ok X.K (hid (dom ω1) H1) (.lst []) := ⟨[], rfl, .nil⟩
      refine lc_list (K := X.K) (a := qa) (xs := xs) (g := gTup X.K 2 (gCons (gName j) (gCons (gName l) gNil))) (tt := tYes) (te := fun σ H Q => BlkF X scope fun Y => WE Y elt σ H Q) (vs := [j, l]) (σ := σ) (H1 := H1) (D := D) (Qd := fun H => Q (.ref D) H) (fun i H' => ∃ ω2 acc, J i ω2 acc ∧ StOk X.K ((D, lstP acc) :: ω2) δ σ H' ∧ Kp (dom ω1) H1 (D :: dom ω2) H') ⟨ω1, [], j0, s1.cons hD hD0, (s1.own.cons hD hD0).2⟩ ?_ ?_ ?_
      · rintro i H' _ ⟨ω2, acc, _, _, k2⟩
        exact SqL.of (hid_some (k2 _ _ hl)).2
      · rintro i y H' hy ⟨ω2, acc, hJ, s2, k2⟩
        obtain ⟨d0, hd0, rd0⟩ := hr.get' hy
        obtain ⟨d1, d2, rfl⟩ := hpr _ (List.mem_of_getElem? hd0)
        have rd1 := rd0.mono k2
        cases rd1 with
        | tup sq ra =>
        cases ra with
        | cons r1 ra =>
        cases ra with
        | cons r2 ra =>
        cases ra
        have sq' := sqt_hid sq
        refine ⟨_, _, rfl, sq', rfl, _, _, rfl, _, _, rfl, rfl, wipe3 hjl, fun s3 H3 C cl fp => ?_⟩
        have sB : StOk X.K ((D, lstP acc) :: ω2) ((((δ.set l none).set j none).set j (some (.dat d1))).set l (some (.dat d2))) (((wipe σ [j, l]).set j (some _)).set l (some _)) H' := ⟨(((s2.env.wipe l).wipe j).set (c := .dat d1) r1 j).set (c := .dat d2) r2 l, s2.own⟩
        refine jt i ω2 acc D d1 d2 hd0 hJ s3 H3 C cl fp _ _ _ sB fun ω3 c v H4 ⟨d, e1, hz, ω4, e2, hJ'⟩ s4 k4 o4 => ?_
        subst e1; subst e2
        obtain ⟨u, m1, vs, rfl, m2⟩ := s4.own.at_ D _ List.mem_cons_self
        have ho : (lstP (acc ++ [d])).ok X.K (hid (dom ((D, lstP acc) :: ω4)) H4) (.lst (vs ++ [v])) := ⟨_, rfl, m2.append (.cons o4 .nil)⟩
        refine ⟨vs, m1, by rw [m2.len]; exact Nat.lt_of_lt_of_le hz (by decide), ω4, _, hJ', ?_, (k2.trans k4).trans (kp_upd List.mem_cons_self)⟩
        have oo := s4.own.put (i := 0) (p := D) (P := lstP acc) rfl ho
        exact ⟨s2.env.mono (k4.trans (kp_upd List.mem_cons_self)), oo⟩
      · rintro H' ⟨ω2, acc, hJ, s2, k2⟩
        rw [hr.len] at hJ
        exact q ω2 _ _ H' (je ω2 acc hJ) s2.drop (k1.trans (k2.trans (kp_drop (P := lstP acc)))) (own_lst s2.own)
theorem n_lcLp (j l : Nat) (hjl : j ≠ l) (hc : X.calm = true) (hn : X.N.Nodup) (hb : BlkOk X.N X.env.scope scope [(x, j), (y, l)])
    (h : N X ω δ iter fun ω1 c => ∃ ds, c = .dat (.list ds) ∧ (∀ d ∈ ds, ∃ d1 d2, d = .tuple [d1, d2]) ∧ ∃ J : Nat → Ow → List PyData → Prop, J 0 ω1 [] ∧
      (∀ i ω2 acc D d1 d2, ds[i]? = some (.tuple [d1, d2]) → J i ω2 acc → BlkF X scope fun Y => N Y ((D, lstP acc) :: ω2) ((((δ.set l none).set j none).set j (some (.dat d1))).set l (some (.dat d2))) elt fun ω3 c => ∃ d, c = .dat d ∧ acc.length < 100000 ∧ ∃ ω4, ω3 = (D, lstP acc) :: ω4 ∧ J (i + 1) ω4 (acc ++ [d])) ∧
      ∀ ω2 acc, J ds.length ω2 acc → Φ ω2 (.dat (.list acc)))
    (hgt : BlkF X scope fun Y => PG Y (.Tuple [.Name x p1, .Name y p2] kk p3) (gTup X.K 2 (gCons (gName j) (gCons (gName l) gNil)))) (hs : ∀ y, foldedSetIterable iter X.env y = pure y := by intro _; rfl) : N X ω δ (.ListComp elt [{ target := .Tuple [.Name x p1, .Name y p2] kk p3, iter := iter, ifs := [], is_async := 0 }] scope pos) Φ :=
  n_lift (pe_lc (own := [(x, j), (y, l)]) (g := gTup X.K 2 (gCons (gName j) (gCons (gName l) gNil))) (te := fun σ H Q => BlkF X scope fun Y => WE Y elt σ H Q) hc hn (pi_list (WE.pe X iter)) hb hgt (fun _ _ _ _ _ => pts_nil) (fun s H C cl fp => ⟨fun pins s' σ' H' Q I q => q s H C cl fp pins s' I⟩) hs) fun σ H Q s q => t_lcLp j l hjl h s q
end
section
variable {X : Cx} {ω : Ow} {δ : Env} {o e : Expr} {Φ : Ow → Cell → Prop} {apos pos : Pos}
/-- o.index(e), a list of integers -/
theorem n_indexI (h : N X ω δ o fun ω1 c1 => ∃ ns : List Int, c1 = .dat (.list (ns.map .int)) ∧ N X ω1 δ e fun ω2 c2 => ∃ (i : Int) (j : Nat), c2 = .dat (.int i) ∧ ns[j]? = some i ∧ (∀ m < j, ns[m]? ≠ some i) ∧ Φ ω2 (.dat (.int (j : Int))))
    (hbase : attributeBase o "index" X.env (eval o X.env) = eval o X.env := by rfl)
    (hfew : ((backTo pos (starEach [e] X.env)).all (fun x => !x.1) && (backToKw pos (keywordEach [] X.env)).all (fun x => x.1.isSome)
      && decide ([e].length + ([] : List Keyword).length + (if ([] : List Keyword).isEmpty then 0 else 1) < 30)) = true := by rfl)
    (hline : (apos.endLine == pos.line) = true := by rfl) (hst : starEach [e] X.env = (false, eval e X.env) :: starEach [] X.env := by rfl) (hplain : (backTo pos (starEach [] X.env)).any (·.1) = false := by rfl) : N X ω δ (.Call (.Attribute o "index" apos) [e] [] pos) Φ :=
  n_lift (pe_bm PySem.F.plainAttrs_list PySem.F.slot_list_index PySem.F.type_list_index mt_index (WE.pe X o) (pa_cons (WE.pe X e) pa_nil hst) hbase hfew hline hst hplain) fun σ H Q s q => h σ H _ s fun ω1 c1 v1 H1 ⟨ns, e1, f1⟩ s1 k1 o1 => by
    subst e1
    cases o1 with
    | @lst p xs _ hl hr =>
      refine ⟨.inl ⟨rfl, _, SqL.of (hid_some hl).2⟩, f1 σ H1 _ s1 fun ω2 c2 v2 H2 ⟨i, j, e2, g1, g2, f2⟩ s2 k2 o2 => ?_⟩
      subst e2
      cases int_of o2
      have ex : xs = ns.map V.int := rpa_ints hr
      subst ex
      refine ⟨p, _, _, j, .int i, rfl, rfl, SqL.of (hid_some (k2 _ _ hl)).2, rfl, ?_, ?_, ?_, ?_, q ω2 _ _ H2 f2 s2 (k1.trans k2) (Rp.int _)⟩
      · rw [List.all_map]; exact List.all_eq_true.mpr fun _ _ => rfl
      · rw [List.getElem?_map, g1]; rfl
      · show (i == i) = true
        exact beq_self_eq_true i
      · intro m z hm hz
        rw [List.getElem?_map] at hz
        obtain ⟨i2, hi2, rfl⟩ := Option.map_eq_some_iff.mp hz
        have hne : i2 ≠ i := fun z => g2 m hm (by rw [hi2, z])
        show (i2 == i) = false
        exact beq_false_of_ne hne
end
section
variable {X : Cx} {ω : Ow} {δ : Env} {a elt test : Expr} {Φ : Ow → Cell → Prop} {pos p1 p2 p3 : Pos} {x : Str} {scope : Scope}
/-- y = [elt for x in range(n) if test] -/
theorem t_lcRi (j : Nat)
    (h : N X ω δ a fun ω1 c => ∃ n, c = .dat (.int n) ∧ -1000000 ≤ n ∧ n ≤ 1000000 ∧ ∃ J : Nat → Ow → List PyData → Prop, J 0 ω1 [] ∧
      (∀ i ω2 acc D, i < n.toNat → J i ω2 acc → BlkF X scope fun Y => NT Y ((D, lstP acc) :: ω2) ((δ.set j none).set j (some (.dat (.int (i : Int))))) test fun ω3 k =>
        if k = true then BlkF X scope fun Y => N Y ω3 ((δ.set j none).set j (some (.dat (.int (i : Int))))) elt fun ω3 c => ∃ d, c = .dat d ∧ acc.length < 100000 ∧ ∃ ω4, ω3 = (D, lstP acc) :: ω4 ∧ J (i + 1) ω4 (acc ++ [d]) else ∃ ω4, ω3 = (D, lstP acc) :: ω4 ∧ J (i + 1) ω4 acc) ∧
      ∀ ω2 acc, J n.toNat ω2 acc → Φ ω2 (.dat (.list acc))) {σ : St} {H : Hp} {Q : VK} (s : StOk X.K ω δ σ H) (q : ∀ ω' c v H', Φ ω' c → StOk X.K ω' δ σ H' → Kp (dom ω) H (dom ω') H' → CellOk X.K (dom ω') H' v c → Q v H') :
    tLc (iRng1 (tCons (WE X a) tNil)) (gName j) (fun σ H Q => BlkF X scope fun Y => WT Y test σ H Q) (fun σ H Q => BlkF X scope fun Y => WE Y elt σ H Q) [j] σ H Q :=
  h σ H _ s fun ω1 c v H1 ⟨n, e1, z1, z2, J, j0, jt, je⟩ s1 k1 o1 => by
    subst e1
    cases int_of o1
    refine ⟨n, rfl, by omega, by omega, fun D hD => ?_⟩
    have hD0 : (lstP []).ok X.K (hid (dom ω1) H1) (.lst []) := ⟨[], rfl, .nil⟩
    refine lc_range (lo := 0) (n := n.toNat) (g := gName j) (tt := fun σ H Q => BlkF X scope fun Y => WT Y test σ H Q) (te := fun σ H Q => BlkF X scope fun Y => WE Y elt σ H Q) (vs := [j]) (σ := σ) (H1 := H1) (D := D) (Qd := fun H => Q (.ref D) H) (fun i H' => ∃ ω2 acc, J i ω2 acc ∧ StOk X.K ((D, lstP acc) :: ω2) δ σ H' ∧ Kp (dom ω1) H1 (D :: dom ω2) H') ⟨ω1, [], j0, s1.cons hD hD0, (s1.own.cons hD hD0).2⟩ ?_ ?_
    · rintro i H' hi ⟨ω2, acc, hJ, s2, k2⟩
      refine ⟨set_wipe, fun s3 H3 C cl fp => ?_⟩
      rw [Int.zero_add]
      have sB : StOk X.K ((D, lstP acc) :: ω2) ((δ.set j none).set j (some (.dat (.int (i : Int))))) ((wipe σ [j]).set j (some (.int (i : Int)))) H' := ⟨(s2.env.wipe j).set (c := .dat (.int i)) (Rp.int _) j, s2.own⟩
      refine jt i ω2 acc D hi hJ s3 H3 C cl fp _ _ _ sB fun ω5 k H5 f5 s5 k5 => ?_
      cases k with
      | true =>
        refine fun s6 H6 C6 cl6 fp6 => f5 s6 H6 C6 cl6 fp6 _ _ _ s5 fun ω3 c v H4 ⟨d, e1, hz, ω4, e2, hJ'⟩ s4 k4 o4 => ?_
        subst e1; subst e2
        obtain ⟨u, m1, vs, rfl, m2⟩ := s4.own.at_ D _ List.mem_cons_self
        have ho : (lstP (acc ++ [d])).ok X.K (hid (dom ((D, lstP acc) :: ω4)) H4) (.lst (vs ++ [v])) := ⟨_, rfl, m2.append (.cons o4 .nil)⟩
        refine ⟨vs, m1, by rw [m2.len]; exact Nat.lt_of_lt_of_le hz (by decide), ω4, _, hJ', ?_, (k2.trans (k5.trans k4)).trans (kp_upd List.mem_cons_self)⟩
        have oo := s4.own.put (i := 0) (p := D) (P := lstP acc) rfl ho
        exact ⟨s2.env.mono ((k5.trans k4).trans (kp_upd List.mem_cons_self)), oo⟩
      | false =>
        obtain ⟨ω4, e2, hJ'⟩ := f5
        subst e2
        exact ⟨ω4, acc, hJ', ⟨s2.env.mono k5, s5.own⟩, k2.trans k5⟩
    · rintro H' ⟨ω2, acc, hJ, s2, k2⟩
      exact q ω2 _ _ H' (je ω2 acc hJ) s2.drop (k1.trans (k2.trans (kp_drop (P := lstP acc)))) (own_lst s2.own)
theorem s_lcRi (i j : Nat) {y : Str} {py spos : Pos} {E : En} (hc : X.calm = true) (hn : X.N.Nodup) (hm : X.mg "range" = none) (hb : BlkOk X.N X.env.scope scope [(x, j)])
    (h : N X ω δ a fun ω1 c => ∃ n, c = .dat (.int n) ∧ -1000000 ≤ n ∧ n ≤ 1000000 ∧ ∃ J : Nat → Ow → List PyData → Prop, J 0 ω1 [] ∧
      (∀ i ω2 acc D, i < n.toNat → J i ω2 acc → BlkF X scope fun Y => NT Y ((D, lstP acc) :: ω2) ((δ.set j none).set j (some (.dat (.int (i : Int))))) test fun ω3 k =>
        if k = true then BlkF X scope fun Y => N Y ω3 ((δ.set j none).set j (some (.dat (.int (i : Int))))) elt fun ω3 c => ∃ d, c = .dat d ∧ acc.length < 100000 ∧ ∃ ω4, ω3 = (D, lstP acc) :: ω4 ∧ J (i + 1) ω4 (acc ++ [d]) else ∃ ω4, ω3 = (D, lstP acc) :: ω4 ∧ J (i + 1) ω4 acc) ∧
      ∀ ω2 acc, J n.toNat ω2 acc → E.nx ω2 (δ.set i (some (.dat (.list acc)))))
    (hgt : BlkF X scope fun Y => PG Y (.Name x p1) (gName j)) (hg : Gl X "range" := by rfl) (ha : starEach [a] X.env = [(false, eval a X.env)] := by rfl)
    (hs : ∀ y, foldedSetIterable (.Call (.Name "range" p2) [a] [] p3) X.env y = pure y := by intro _; rfl)
    (hyN : X.N[i]? = some y := by rfl) (hyl : X.env.scope.names.lookup y = some .local := by rfl) (hkd : X.env.scope.kind = .function := by rfl) (hpl : (py.line == pos.line) = true := by rfl) (hfr : (scope.names.any fun (n, k) => n == y && (k == .local || k == .cell)) = false := by decide +kernel) : S X ω δ (.Assign [.Name y py] (.ListComp elt [{ target := .Name x p1, iter := .Call (.Name "range" p2) [a] [] p3, ifs := [test], is_async := 0 }] scope pos) spos) E := fun σ H D s f =>
  WS.of (ps_setLc (i := i) (own := [(x, j)]) (g := gName j) (tt := fun σ H Q => BlkF X scope fun Y => WT Y test σ H Q) (te := fun σ H Q => BlkF X scope fun Y => WE Y elt σ H Q) hc hn hyN hyl (sw_true hkd hyl hpl hfr) (pi_range1 hg hm (pa_cons (WE.pe X a) pa_nil ha) ha) hb hgt (fun s H C cl fp => pts_one ⟨fun pins s' σ' H' Q I q => q s H C cl fp pins s' I⟩) (fun s H C cl fp => ⟨fun pins s' σ' H' Q I q => q s H C cl fp pins s' I⟩) hs) (t_lcRi (Φ := fun ω1 c => E.nx ω1 (δ.set i (some c))) j h s fun ω1 c v H1 q s1 k1 o1 => f.nx ω1 _ _ H1 q (s1.store i o1) k1)
end
end DL

namespace DL
open PySem PySem.Spec L2 RZ
section
variable {X : Cx} {ω : Ow} {δ : Env} {a b c : Expr} {body : List Stmt} {E : En} {pos p1 p2 p3 p4 p5 : Pos} {x y : Str} {kk : Nat}
/-- for x, y in zip of two lists of one length -/
theorem s_forZL (j l : Nat) (hp : PassesOwn (model X.prog X.w) X.A X.env X.xe) (hc : X.calm = true) (hn : X.N.Nodup) (hm : X.mg "zip" = none)
    (h : N X ω δ a fun ω0 c0 => N X ω0 δ b fun ω1 c => ∃ ds es, c0 = .dat (.list ds) ∧ c = .dat (.list es) ∧ ds.length = es.length ∧ ∃ I : Nat → Ow → Env → Prop, I 0 ω1 δ ∧
      (∀ i ω2 δ2 d e, ds[i]? = some d → es[i]? = some e → I i ω2 δ2 → B X ω2 ((δ2.set j (some (.dat d))).set l (some (.dat e))) body { nx := I (i + 1), ct := I (i + 1), bk := E.nx, rt := E.rt }) ∧ ∀ ω2 δ2, I ds.length ω2 δ2 → E.nx ω2 δ2)
    (hg : Gl X "zip" := by rfl) (ha : starEach [a, b] X.env = (false, eval a X.env) :: starEach [b] X.env := by rfl) (ha2 : starEach [b] X.env = (false, eval b X.env) :: starEach [] X.env := by rfl) (hpl : (backTo p5 (starEach [b] X.env)).any (·.1) = false := by rfl) (hN : X.N[j]? = some x := by rfl) (hN2 : X.N[l]? = some y := by rfl)
    (hx : Loc X.env.scope x := by first | exact Or.inl rfl | exact Or.inr rfl) (hy : Loc X.env.scope y := by first | exact Or.inl rfl | exact Or.inr rfl)
    (hf : X.fn x = true ∨ X.env.scope.names.lookup x = some .local := by first | exact .inl rfl | exact .inr rfl | assumption) (hf2 : X.fn y = true ∨ X.env.scope.names.lookup y = some .local := by first | exact .inl rfl | exact .inr rfl | assumption)
    (h1 : (assignEach [.Name x p1, .Name y p2] X.env).map (·.2) = assign (.Name x p1) X.env :: (assignEach [.Name y p2] X.env).map (·.2) := by rfl) (h2 : (assignEach [.Name y p2] X.env).map (·.2) = assign (.Name y p2) X.env :: (assignEach [] X.env).map (·.2) := by rfl)
    (h3 : (assignEach [.Name x p1, .Name y p2] X.env).length = 2 := by rfl) (h4 : (assignEach [.Name x p1, .Name y p2] X.env).findIdx? (·.1) = none := by rfl)
    (hs : ∀ z, foldedSetIterable (.Call (.Name "zip" p4) [a, b] [] p5) X.env z = pure z := by intro _; rfl) : S X ω δ (.For (.Tuple [.Name x p1, .Name y p2] kk p3) (.Call (.Name "zip" p4) [a, b] [] p5) body [] pos) E := fun σ H D s f =>
  WS.of (ps_for hp hc (pi_zipA hg hm (pa_cons (WE.pe X a) (pa_cons (WE.pe X b) pa_nil ha2) ha) ha hpl) (pg_tup hc (pgs_cons (pg_name hn hN hx hf) (pgs_cons (pg_name hn hN2 hy hf2) pgs_nil h2) h1) h3 h4) (WB.pss X body) hs) (h σ H _ s fun ω0 c0 v0 H0 f0 s0 k0 o0 => f0 σ H0 _ s0 fun ω1 c v H1 ⟨ds, es, e0, e1, hlen, I, i0, it, ie⟩ s1 k1' o1 => by
    subst e0; subst e1
    have k1 := k0.trans k1'
    cases o0 with
    | @lst q xs _ hl hr =>
    cases o1 with
    | @lst q2 ys _ hl2 hr2 =>
      have hr1 := hr.mono k1'
      have hl1 := k1' _ _ hl
      have ln : xs.length = ys.length := by rw [hr.len, hr2.len]; exact hlen
      refine ⟨q, q2, xs, ys, rfl, .inl ⟨SqL.of (hid_some hl1).2, SqL.of (hid_some hl2).2, ?_⟩⟩
      refine for_zipL (xs := xs) (ys := ys) ln (fun i σ' H' => ∃ ω2 δ2, I i ω2 δ2 ∧ StOk X.K ω2 δ2 σ' H' ∧ Kp (dom ω1) H1 (dom ω2) H') ⟨ω1, δ, i0, s1, Kp.refl _ _⟩ ?_ ?_ ?_
      · rintro i σ' H' ⟨ω2, δ2, _, _, k2⟩
        exact ⟨SqL.of (hid_some (k2 _ _ hl1)).2, SqL.of (hid_some (k2 _ _ hl2)).2⟩
      · rintro i u v T σ' H' hu hv ⟨ω2, δ2, hI, s2, k2⟩ hT
        obtain ⟨d, hd, rd⟩ := hr1.get' hu
        obtain ⟨e, he, re⟩ := hr2.get' hv
        refine ⟨T, _, rfl, .inl (.inl upd_same), rfl, _, _, rfl, _, _, rfl, rfl, ?_⟩
        have s3 := s2.new (o := .tup [u, v]) hT
        have kn := kp_new (o := .tup [u, v]) s2.own hT
        have s4 := (s3.store j (c := .dat d) (rd.mono (k2.trans kn))).store l (c := .dat e) (re.mono (k2.trans kn))
        exact it i ω2 δ2 d e hd he hI _ _ _ s4 ⟨fun ω3 δ3 σ3 H3 q s3 k3 => ⟨ω3, δ3, q, s3, k2.trans (kn.trans k3)⟩, fun ω3 c v H3 q s3 k3 o3 => f.rt ω3 c v H3 q s3 (k1.trans (k2.trans (kn.trans k3))) o3, fun ω3 δ3 σ3 H3 q s3 k3 => f.nx ω3 δ3 σ3 H3 q s3 (k1.trans (k2.trans (kn.trans k3))), fun ω3 δ3 σ3 H3 q s3 k3 => ⟨ω3, δ3, q, s3, k2.trans (kn.trans k3)⟩⟩
      · rintro σ' H' ⟨ω2, δ2, hI, s2, k2⟩
        rw [hr.len] at hI
        exact f.nx ω2 δ2 σ' H' (ie ω2 δ2 hI) s2 (k1.trans k2))
end
section
variable {X : Cx} {ω : Ow} {δ : Env} {a elt test : Expr} {Φ : Ow → Cell → Prop} {pos p1 p2 p3 : Pos} {x : Str} {scope : Scope}
/-- y = [elt for x in range(n) if test], the list owned -/
theorem t_lcRiO (j : Nat)
    (h : N X ω δ a fun ω1 c => ∃ n, c = .dat (.int n) ∧ -1000000 ≤ n ∧ n ≤ 1000000 ∧ ∃ J : Nat → Ow → List PyData → Prop, J 0 ω1 [] ∧
      (∀ i ω2 acc D, i < n.toNat → J i ω2 acc → BlkF X scope fun Y => NT Y ((D, lstP acc) :: ω2) ((δ.set j none).set j (some (.dat (.int (i : Int))))) test fun ω3 k =>
        if k = true then BlkF X scope fun Y => N Y ω3 ((δ.set j none).set j (some (.dat (.int (i : Int))))) elt fun ω3 c => ∃ d, c = .dat d ∧ acc.length < 100000 ∧ ∃ ω4, ω3 = (D, lstP acc) :: ω4 ∧ J (i + 1) ω4 (acc ++ [d]) else ∃ ω4, ω3 = (D, lstP acc) :: ω4 ∧ J (i + 1) ω4 acc) ∧
      ∀ ω2 acc D, J n.toNat ω2 acc → Φ ((D, lstP acc) :: ω2) (.raw (.ref D))) {σ : St} {H : Hp} {Q : VK} (s : StOk X.K ω δ σ H) (q : ∀ ω' c v H', Φ ω' c → StOk X.K ω' δ σ H' → Kp (dom ω) H (dom ω') H' → CellOk X.K (dom ω') H' v c → Q v H') :
    tLc (iRng1 (tCons (WE X a) tNil)) (gName j) (fun σ H Q => BlkF X scope fun Y => WT Y test σ H Q) (fun σ H Q => BlkF X scope fun Y => WE Y elt σ H Q) [j] σ H Q :=
  h σ H _ s fun ω1 c v H1 ⟨n, e1, z1, z2, J, j0, jt, je⟩ s1 k1 o1 => by
    subst e1
    cases int_of o1
    refine ⟨n, rfl, by omega, by omega, fun D hD => ?_⟩
    have hD0 : (lstP []).ok X.K (hid (dom ω1) H1) (.lst []) := ⟨[], rfl, .nil⟩
    refine lc_range (lo := 0) (n := n.toNat) (g := gName j) (tt := fun σ H Q => BlkF X scope fun Y => WT Y test σ H Q) (te := fun σ H Q => BlkF X scope fun Y => WE Y elt σ H Q) (vs := [j]) (σ := σ) (H1 := H1) (D := D) (Qd := fun H => Q (.ref D) H) (fun i H' => ∃ ω2 acc, J i ω2 acc ∧ StOk X.K ((D, lstP acc) :: ω2) δ σ H' ∧ Kp (dom ω1) H1 (D :: dom ω2) H') ⟨ω1, [], j0, s1.cons hD hD0, (s1.own.cons hD hD0).2⟩ ?_ ?_
    · rintro i H' hi ⟨ω2, acc, hJ, s2, k2⟩
      refine ⟨set_wipe, fun s3 H3 C cl fp => ?_⟩
      rw [Int.zero_add]
      have sB : StOk X.K ((D, lstP acc) :: ω2) ((δ.set j none).set j (some (.dat (.int (i : Int))))) ((wipe σ [j]).set j (some (.int (i : Int)))) H' := ⟨(s2.env.wipe j).set (c := .dat (.int i)) (Rp.int _) j, s2.own⟩
      refine jt i ω2 acc D hi hJ s3 H3 C cl fp _ _ _ sB fun ω5 k H5 f5 s5 k5 => ?_
      cases k with
      | true =>
        refine fun s6 H6 C6 cl6 fp6 => f5 s6 H6 C6 cl6 fp6 _ _ _ s5 fun ω3 c v H4 ⟨d, e1, hz, ω4, e2, hJ'⟩ s4 k4 o4 => ?_
        subst e1; subst e2
        obtain ⟨u, m1, vs, rfl, m2⟩ := s4.own.at_ D _ List.mem_cons_self
        have ho : (lstP (acc ++ [d])).ok X.K (hid (dom ((D, lstP acc) :: ω4)) H4) (.lst (vs ++ [v])) := ⟨_, rfl, m2.append (.cons o4 .nil)⟩
        refine ⟨vs, m1, by rw [m2.len]; exact Nat.lt_of_lt_of_le hz (by decide), ω4, _, hJ', ?_, (k2.trans (k5.trans k4)).trans (kp_upd List.mem_cons_self)⟩
        have oo := s4.own.put (i := 0) (p := D) (P := lstP acc) rfl ho
        exact ⟨s2.env.mono ((k5.trans k4).trans (kp_upd List.mem_cons_self)), oo⟩
      | false =>
        obtain ⟨ω4, e2, hJ'⟩ := f5
        subst e2
        exact ⟨ω4, acc, hJ', ⟨s2.env.mono k5, s5.own⟩, k2.trans k5⟩
    · rintro H' ⟨ω2, acc, hJ, s2, k2⟩
      exact q _ _ _ H' (je ω2 acc D hJ) s2 (k1.trans k2) rfl
theorem n_lcRiO (j : Nat) (hc : X.calm = true) (hn : X.N.Nodup) (hm : X.mg "range" = none) (hb : BlkOk X.N X.env.scope scope [(x, j)])
    (h : N X ω δ a fun ω1 c => ∃ n, c = .dat (.int n) ∧ -1000000 ≤ n ∧ n ≤ 1000000 ∧ ∃ J : Nat → Ow → List PyData → Prop, J 0 ω1 [] ∧
      (∀ i ω2 acc D, i < n.toNat → J i ω2 acc → BlkF X scope fun Y => NT Y ((D, lstP acc) :: ω2) ((δ.set j none).set j (some (.dat (.int (i : Int))))) test fun ω3 k =>
        if k = true then BlkF X scope fun Y => N Y ω3 ((δ.set j none).set j (some (.dat (.int (i : Int))))) elt fun ω3 c => ∃ d, c = .dat d ∧ acc.length < 100000 ∧ ∃ ω4, ω3 = (D, lstP acc) :: ω4 ∧ J (i + 1) ω4 (acc ++ [d]) else ∃ ω4, ω3 = (D, lstP acc) :: ω4 ∧ J (i + 1) ω4 acc) ∧
      ∀ ω2 acc D, J n.toNat ω2 acc → Φ ((D, lstP acc) :: ω2) (.raw (.ref D)))
    (hgt : BlkF X scope fun Y => PG Y (.Name x p1) (gName j)) (hg : Gl X "range" := by rfl) (ha : starEach [a] X.env = [(false, eval a X.env)] := by rfl)
    (hs : ∀ y, foldedSetIterable (.Call (.Name "range" p2) [a] [] p3) X.env y = pure y := by intro _; rfl) : N X ω δ (.ListComp elt [{ target := .Name x p1, iter := .Call (.Name "range" p2) [a] [] p3, ifs := [test], is_async := 0 }] scope pos) Φ :=
  n_lift (pe_lc (own := [(x, j)]) (g := gName j) (tt := fun σ H Q => BlkF X scope fun Y => WT Y test σ H Q) (te := fun σ H Q => BlkF X scope fun Y => WE Y elt σ H Q) hc hn (pi_range1 hg hm (pa_cons (WE.pe X a) pa_nil ha) ha) hb hgt (fun s H C cl fp => pts_one ⟨fun pins s' σ' H' Q I q => q s H C cl fp pins s' I⟩) (fun s H C cl fp => ⟨fun pins s' σ' H' Q I q => q s H C cl fp pins s' I⟩) hs) fun σ H Q s q => t_lcRiO j h s q
theorem s_lcRiO (i j : Nat) {y : Str} {py spos : Pos} {E : En} (hc : X.calm = true) (hn : X.N.Nodup) (hm : X.mg "range" = none) (hb : BlkOk X.N X.env.scope scope [(x, j)])
    (h : N X ω δ a fun ω1 c => ∃ n, c = .dat (.int n) ∧ -1000000 ≤ n ∧ n ≤ 1000000 ∧ ∃ J : Nat → Ow → List PyData → Prop, J 0 ω1 [] ∧
      (∀ i ω2 acc D, i < n.toNat → J i ω2 acc → BlkF X scope fun Y => NT Y ((D, lstP acc) :: ω2) ((δ.set j none).set j (some (.dat (.int (i : Int))))) test fun ω3 k =>
        if k = true then BlkF X scope fun Y => N Y ω3 ((δ.set j none).set j (some (.dat (.int (i : Int))))) elt fun ω3 c => ∃ d, c = .dat d ∧ acc.length < 100000 ∧ ∃ ω4, ω3 = (D, lstP acc) :: ω4 ∧ J (i + 1) ω4 (acc ++ [d]) else ∃ ω4, ω3 = (D, lstP acc) :: ω4 ∧ J (i + 1) ω4 acc) ∧
      ∀ ω2 acc D, J n.toNat ω2 acc → E.nx ((D, lstP acc) :: ω2) (δ.set i (some (.raw (.ref D)))))
    (hgt : BlkF X scope fun Y => PG Y (.Name x p1) (gName j)) (hg : Gl X "range" := by rfl) (ha : starEach [a] X.env = [(false, eval a X.env)] := by rfl)
    (hs : ∀ y, foldedSetIterable (.Call (.Name "range" p2) [a] [] p3) X.env y = pure y := by intro _; rfl)
    (hyN : X.N[i]? = some y := by rfl) (hyl : X.env.scope.names.lookup y = some .local := by rfl) (hkd : X.env.scope.kind = .function := by rfl) (hpl : (py.line == pos.line) = true := by rfl) (hfr : (scope.names.any fun (n, k) => n == y && (k == .local || k == .cell)) = false := by decide +kernel) : S X ω δ (.Assign [.Name y py] (.ListComp elt [{ target := .Name x p1, iter := .Call (.Name "range" p2) [a] [] p3, ifs := [test], is_async := 0 }] scope pos) spos) E := fun σ H D s f =>
  WS.of (ps_setLc (i := i) (own := [(x, j)]) (g := gName j) (tt := fun σ H Q => BlkF X scope fun Y => WT Y test σ H Q) (te := fun σ H Q => BlkF X scope fun Y => WE Y elt σ H Q) hc hn hyN hyl (sw_true hkd hyl hpl hfr) (pi_range1 hg hm (pa_cons (WE.pe X a) pa_nil ha) ha) hb hgt (fun s H C cl fp => pts_one ⟨fun pins s' σ' H' Q I q => q s H C cl fp pins s' I⟩) (fun s H C cl fp => ⟨fun pins s' σ' H' Q I q => q s H C cl fp pins s' I⟩) hs) (t_lcRiO (Φ := fun ω1 c => E.nx ω1 (δ.set i (some c))) j h s fun ω1 c v H1 q s1 k1 o1 => f.nx ω1 _ _ H1 q (s1.store i o1) k1)
end
section
variable {X : Cx} {ω : Ow} {δ : Env} {a b : Expr} {Φ : Ow → Cell → Prop} {pos p1 p2 p3 : Pos}
/-- list(range(n)), owned -/
theorem n_listRgO (hc : X.calm = true) (hm : X.mg "list" = none) (hm2 : X.mg "range" = none) (h : N X ω δ a fun ω1 c => ∃ n : Int, c = .dat (.int n) ∧ 0 ≤ n ∧ n ≤ 1000000 ∧ ∀ p, Φ ((p, lstP (rgD n)) :: ω1) (.raw (.ref p))) (hg : Gl X "list" := by rfl) (hg2 : Gl X "range" := by rfl)
    (na : starEach [.Call (.Name "range" p2) [a] [] p3] X.env = (false, eval (.Call (.Name "range" p2) [a] [] p3) X.env) :: starEach [] X.env := by rfl) (na2 : starEach [a] X.env = (false, eval a X.env) :: starEach [] X.env := by rfl) : N X ω δ (.Call (.Name "list" p1) [.Call (.Name "range" p2) [a] [] p3] [] pos) Φ :=
  n_lift (pe_listRg hc hg hm (prg_1 hg2 hm2 (WE.pe X a) na2) na) fun σ H Q s q => h σ H _ s fun ω1 c v H1 ⟨n, e1, n0, n1, f⟩ s1 k1 o1 => by
    subst e1
    cases int_of o1
    exact ⟨n, rfl, RgOk.of_le (by omega) (by omega) (by omega) n0, fun p hp => by
      have ho : (lstP (rgD n)).ok X.K (hid (dom ω1) H1) (.lst (rgV 0 n)) := ⟨_, rfl, rg_rp n⟩
      exact q _ _ _ _ (f p) (s1.cons hp ho) (k1.trans (s1.own.cons hp ho).2) rfl⟩
end
section
variable {X : Cx} {ω : Ow} {δ : Env} {e b1 b2 : Expr} {E : En} {pos p1 p2 q1 q2 pt : Pos} {x : Str} {kt : Nat}
/-- o[i], o[j] = two things, o an owned list -/
theorem s_swapO (i n : Nat) {p : Addr} (hc : X.calm = true) (hd : δ[i]? = some (some (.raw (.ref p)))) (h : N X ω δ e fun ω1 c1 => ∃ d1 d2, c1 = .dat (.tuple [d1, d2]) ∧ N X ω1 δ b1 fun ω2 c2 => ∃ ds k j, ω2[n]? = some (p, lstP ds) ∧ c2 = .dat (.int k) ∧ ixN ds.length k = some j ∧ N X (ω2.set n (p, lstP (ds.set j d1))) δ b2 fun ω3 c3 => ∃ es k2 j2, ω3[n]? = some (p, lstP es) ∧ c3 = .dat (.int k2) ∧ ixN es.length k2 = some j2 ∧ E.nx (ω3.set n (p, lstP (es.set j2 d2))) δ) (hN : X.N[i]? = some x := by rfl)
    (hs : swapsWithSole [.Tuple [.Subscript (.Name x p1) b1 q1, .Subscript (.Name x p2) b2 q2] kt pt] e pos.line X.env = pure false := by rfl) (hw : swappedStores [.Tuple [.Subscript (.Name x p1) b1 q1, .Subscript (.Name x p2) b2 q2] kt pt] e X.env = pure none := by rfl)
    (h1 : (assignEach [.Tuple [.Subscript (.Name x p1) b1 q1, .Subscript (.Name x p2) b2 q2] kt pt] X.env).map (·.2) = [assign (.Tuple [.Subscript (.Name x p1) b1 q1, .Subscript (.Name x p2) b2 q2] kt pt) X.env] := by rfl)
    (h2 : (assignEach [.Subscript (.Name x p1) b1 q1, .Subscript (.Name x p2) b2 q2] X.env).map (·.2) = assign (.Subscript (.Name x p1) b1 q1) X.env :: (assignEach [.Subscript (.Name x p2) b2 q2] X.env).map (·.2) := by rfl)
    (h3 : (assignEach [.Subscript (.Name x p2) b2 q2] X.env).map (·.2) = assign (.Subscript (.Name x p2) b2 q2) X.env :: (assignEach [] X.env).map (·.2) := by rfl)
    (h4 : (assignEach [.Subscript (.Name x p1) b1 q1, .Subscript (.Name x p2) b2 q2] X.env).length = 2 := by rfl) (h5 : (assignEach [.Subscript (.Name x p1) b1 q1, .Subscript (.Name x p2) b2 q2] X.env).findIdx? (·.1) = none := by rfl)
    (ha : ∀ v, assign (.Subscript (.Name x p1) b1 q1) X.env v = (do
      let ov ← holding [v] (eval (.Name x p1) X.env)
      let iv ← holding [v, ov] (eval b1 X.env)
      standAt q1
      holding [v, ov, iv] (setItem ov iv v)
      release [v, ov, iv] []) := by intro _; rfl)
    (ha2 : ∀ v, assign (.Subscript (.Name x p2) b2 q2) X.env v = (do
      let ov ← holding [v] (eval (.Name x p2) X.env)
      let iv ← holding [v, ov] (eval b2 X.env)
      standAt q2
      holding [v, ov, iv] (setItem ov iv v)
      release [v, ov, iv] []) := by intro _; rfl)
    (hv : Vis X.env.scope x := by first | exact Or.inl rfl | exact Or.inr (Or.inl rfl) | exact Or.inr (Or.inr rfl)) (hg : (x == ("__debug__" : Str)) = false := by decide) (hcd : (x == ("__classdict__" : Str)) = false := by decide) : S X ω δ (.Assign [.Tuple [.Subscript (.Name x p1) b1 q1, .Subscript (.Name x p2) b2 q2] kt pt] e pos) E := fun σ H D s f =>
  WS.of (ps_asg (WE.pe X e) (pg_tup hc (pgs_cons (pg_sub (pe_var hN hv hg hcd) (WE.pe X b1) set_list ha) (pgs_cons (pg_sub (pe_var hN hv hg hcd) (WE.pe X b2) set_list ha2) pgs_nil h3) h2) h4 h5) hs hw h1) (h σ H _ s fun ω1 c1 v1 H1 ⟨d1, d2, e1, f1⟩ s1 k1 o1 => by
    subst e1
    cases o1 with
    | tup sq ra =>
    cases ra with
    | @cons va _ _ _ r1 ra =>
    cases ra with
    | @cons vb _ _ _ r2 ra =>
    cases ra
    have sq' := sqt_hid sq
    obtain ⟨v, g1, g2⟩ := s1.get hd
    cases g2
    refine ⟨_, _, rfl, sq', rfl, _, _, rfl, ⟨_, g1, f1 σ H1 _ s1 fun ω2 c2 v2 H2 ⟨ds, k, j, hw2, e2, hj, f2⟩ s2 k2 o2 => ?_⟩⟩
    subst e2
    cases int_of o2
    obtain ⟨u, m1, vs, rfl, m2⟩ := s2.own.at_ p _ (List.mem_of_getElem? hw2)
    have m3 := r1.mono k2
    refine ⟨p, vs, k, j, rfl, rfl, m1, by rw [m2.len]; exact hj, ?_⟩
    have s3 := s2.put hw2 (P' := lstP (ds.set j d1)) ⟨_, rfl, m2.set m3 j⟩
    have k3 : Kp (dom ω2) H2 (dom (ω2.set n (p, lstP (ds.set j d1)))) (upd H2 p (.lst (vs.set j va))) := by rw [dom_set hw2]; exact kp_upd (mem_dom hw2)
    refine ⟨_, _, rfl, ⟨_, g1, f2 σ _ _ s3 fun ω3 c3 v3 H3 ⟨es, l, j2, hw3, e3, hj3, q⟩ s4 k4 o3 => ?_⟩⟩
    subst e3
    cases int_of o3
    obtain ⟨u2, n1, ws, rfl, n2⟩ := s4.own.at_ p _ (List.mem_of_getElem? hw3)
    have n3 := r2.mono (k2.trans (k3.trans k4))
    refine ⟨p, ws, l, j2, rfl, rfl, n1, by rw [n2.len]; exact hj3, rfl, ?_⟩
    exact f.nx _ _ _ _ q (s4.put hw3 ⟨_, rfl, n2.set n3 j2⟩) (by rw [dom_set hw3]; exact (k1.trans (k2.trans (k3.trans k4))).trans (kp_upd (mem_dom hw3))))
theorem ix_nat {n j : Nat} (hj : j < n) : ixN n (j : Int) = some j := by
  unfold ixN
  rw [if_pos (by omega), if_pos (by omega), Int.toNat_natCast]
end
end DL

namespace DL
open PySem PySem.Spec L2 PyProof.Rows
/-! ## sorted(xs, key=f), f a def of the program -/
section
variable {X : Cx} {pins : List (Addr × Obj)} {σ : L2.St} {H : Hp} {s : Shared} {A : Around} {j : Nat} {f : Addr} {fd : FuncData} {ps : List Str} {C : Con} {vs : List V} {us : List Value} {Q : VK} {Er : Value → Shared → Prop}
theorem call_ownE (G : FnOk X.prog X.w X.K X.mg X.base CX0 j f fd ps (spD X.K C)) (hb : Binds X.K fd ps []) (hr : Room j A) (e0 : Env0 X.prog X.w X.K X.mg X.base A X.stack s H) (I : Inv X pins σ H s) (rv : Vals vs us) (hl : us.length = ps.length)
    (sp : spD X.K C vs H Q fun _ _ _ => False) : wpAny (model X.prog X.w) A (call (.ref f) us) (EP X pins σ Q) Er s := by
  have hbs := hb s us I.kIn (by rw [List.append_nil]; exact hl)
  rw [List.append_nil] at hbs
  refine wpAny_call (codeAny_mono (G.run A X.stack s H ⟨us, []⟩ us vs _ _ hr e0 hbs rv sp) fun r s' hq => ?_)
  cases r with
  | error er => exact hq.elim
  | ok fl =>
    cases fl with
    | ret u => exact I.after hq
    | next => exact hq.elim
    | brk => exact hq.elim
    | cont => exact hq.elim
end
/-- an object that is thrown away -/
def dead (h : Heap) (a : Addr) : Heap := h.update a fun o => { o with data := .freed }
theorem dead_none {h : Heap} {a : Addr} {o : Obj} (e : h.get? a = some o) : (dead h a).get? a = none := by
  obtain ⟨objs, l⟩ := h
  have ho : objs[a]? = some o := by
    unfold Heap.get? at e
    dsimp only at e
    split at e
    · cases e
    · exact e
  show (match (objs.modify a fun o => { o with data := .freed })[a]? with
    | some ⟨_, _, .freed, _⟩ => none
    | o => o) = none
  rw [Array.getElem?_modify, if_pos rfl, ho]
  obtain ⟨c, d, dt, sl⟩ := o
  rfl
theorem dead_ne {h : Heap} {a b : Addr} (e : b ≠ a) : (dead h a).get? b = h.get? b := Heap.get?_update_ne _ _ _ _ e
abbrev srtD (key : PyData → PyData) (ds : List PyData) : List PyData := ds.mergeSort (PySem.W.dataLe false key)
/-- what sorting by a key asks -/
structure KeysOk (key : PyData → PyData) (ds : List PyData) : Prop where
  al : PySem.W.AllAlike (ds.map key)
  so : PySem.W.Sortable (ds.map key)
  ok : ∀ d ∈ ds, (key d).showable = true ∧ (key d).depth ≤ 20
def rSortK (K : PySem.W.Frag) (C : Con) (key : PyData → PyData) (f : Addr) : List V → List V → Hp → VK → Prop := fun vs zs H Q => ∃ (ω : Ow) (l : Addr) (ds : List PyData), vs = [V.ref l] ∧ zs = [V.ref f] ∧ OwnOk K ω H ∧ Rp K (hid (dom ω) H) (.ref l) (.list ds) ∧ KeysOk key ds ∧
  (∀ d ∈ ds, ∀ Ψ : Ow → Cell → Prop, Ψ ω (.dat (key d)) → C [.dat d] ω Ψ) ∧ ∀ v H', OwnOk K ω H' → Kp (dom ω) H (dom ω) H' → Rp K (hid (dom ω) H') v (.list (srtD key ds)) → Q v H'
theorem reads_of {X : Cx} {pins : List (Addr × Obj)} {σ : L2.St} {H : Hp} {s : Shared} {O : List Addr} (I : Inv X pins σ H s) (hsm : ∃ m, X.base.Ns sysModules m) : ∀ {ys : List V} {us : List Value} {ds : List PyData}, Vals ys us → RpA X.K (hid O H) ys ds → (∀ d ∈ ds, d.showable = true) → PySem.W.EachIs (fun v k => ∃ as, Reads s.heap v k as) us ds
  | _, _, _, .nil, .nil, _ => .nil
  | _, _, _, .cons rv r, .cons rp ra, h => by
    obtain ⟨as, e, _⟩ := rp_read1 I hsm (h _ List.mem_cons_self) (rp.mono hid_same) rv
    exact .cons ⟨as, e⟩ (reads_of I hsm r ra fun d hd => h d (List.mem_cons_of_mem _ hd))
theorem each_mk {K : PySem.W.Frag} {H : Hp} : ∀ {ys : List V} {us : List Value} {ds : List PyData}, Vals ys us → RpA K H ys ds → PySem.W.EachIs (fun (u : Value) (d : PyData) => ∃ v, RelV v u ∧ Rp K H v d) us ds
  | _, _, _, .nil, .nil => .nil
  | _, _, _, .cons rv r, .cons rp ra => .cons ⟨_, rv, rp⟩ (each_mk r ra)
theorem each_back {K : PySem.W.Frag} {H : Hp} : ∀ {us : List Value} {ds : List PyData}, PySem.W.EachIs (fun (u : Value) (d : PyData) => ∃ v, RelV v u ∧ Rp K H v d) us ds → ∃ ys, Vals ys us ∧ RpA K H ys ds
  | _, _, .nil => ⟨[], .nil, .nil⟩
  | _, _, .cons ⟨v, h1, h2⟩ r => by
    obtain ⟨ys, g1, g2⟩ := each_back r
    exact ⟨v :: ys, .cons h1 g1, .cons h2 g2⟩
theorem vals_snoc : ∀ {ys : List V} {us : List Value} {v : V} {u : Value}, Vals ys us → RelV v u → Vals (ys ++ [v]) (us ++ [u])
  | _, _, _, _, .nil, h => .cons h .nil
  | _, _, _, _, .cons a r, h => .cons a (vals_snoc r h)
theorem cr_sortK {X : Cx} {j : Nat} {f : Addr} {fd : FuncData} {pa : Str} {C : Con} {key : PyData → PyData} (hsm : ∃ m, X.base.Ns sysModules m) (G : FnOk X.prog X.w X.K X.mg X.base CX0 j f fd [pa] (spD X.K C)) (hb : Binds X.K fd [pa] []) (hr : Room (j + 2) X.A) (hu : X.A.units + 64 < cLine) :
    CallRK X (.builtin "sorted") [Str.ofString "key"] (rSortK X.K C key f) := by
  intro pins s σ H vs zs us ws Q I r rz h
  obtain ⟨ω, l, ds, rfl, rfl, own, rp, ko, hkey, q⟩ := h
  obtain rfl := Vals.ref1 r
  obtain ⟨w1, rfl, ew⟩ := vals1 rz
  obtain rfl : w1 = Value.ref f := ew
  cases rp with
  | @lst _ xs _ hl hra =>
  obtain ⟨its, rv, pl, hz⟩ := I.list (SqL.of (hid_some hl).2)
  have hlen : its.length = ds.length := by rw [← rv.length, hra.len]
  have hzi : its.length ≤ sizeLine := by rw [← rv.length]; exact hz
  refine PySem.W.sorted_of_sort (vs := its) pl.isList hzi (PyProof.Rows.ksk_s1 _ _) (fun _ => PyProof.Rows.ksk_l1 _ _) fun E' => ?_
  show wpAny _ _ (Builtin.«list.sort» ⟨[.ref (s.heap.objs.size + 1)], [(Str.ofString "key", .ref f)]⟩) _ _ _
  rw [PyProof.Rows.ksk_t1]
  unfold PyProof.Rows.ksk_tree
  have hoA := PySem.W.copyHeap_at s.heap its
  obtain ⟨ep1, hoA1⟩ : ∃ n, ((PySem.W.copyHeap s.heap its).update (s.heap.objs.size + 1) (Obj.mapSeq fun _ => (#[] : Array Value))).get? (s.heap.objs.size + 1) = some (seqObj "list" #[] n) := ⟨_, get?_update_seq hoA fun _ => #[]⟩
  refine wpAny_bind (PyProof.Rows.listItems_at hoA rfl ?_)
  refine wpAny_bind (PyProof.Rows.listUpdate_at hoA rfl ?_ (by rw [List.size_toArray]; exact hzi) (Nat.zero_le _))
  refine wpAny_bind (PyProof.Rows.seqEpoch_at hoA1 rfl ?_)
  refine wpAny_bind (wpAny_newTuple ?_ (by show its.length ≤ sizeLine; exact hzi))
  refine wpAny_bind (wpAny_newList ?_ (Nat.zero_le _))
  refine wpAny_holding ?_
  -- the two objects of the sort: the list's copy and the keys
  have hsA : (PySem.W.copyHeap s.heap its).objs.size = s.heap.objs.size + 2 := by
    unfold PySem.W.copyHeap
    rw [size_push', Heap.size_update, size_push']
  have hsT : (((PySem.W.copyHeap s.heap its).update (s.heap.objs.size + 1) (Obj.mapSeq fun _ => (#[] : Array Value))).push (seqObj "tuple" its.toArray 0)).objs.size = s.heap.objs.size + 3 := by
    rw [size_push', Heap.size_update, hsA]
  generalize hkS : (((PySem.W.copyHeap s.heap its).update (s.heap.objs.size + 1) (Obj.mapSeq fun _ => (#[] : Array Value))).push (seqObj "tuple" its.toArray 0)).objs.size = kS
  have ekS : kS = s.heap.objs.size + 3 := by rw [← hkS]; exact hsT
  generalize hA : s.heap.objs.size + 1 = pa1 at hoA1
  have k2 : ∀ b o, s.heap.get? b = some o → ((((PySem.W.copyHeap s.heap its).update pa1 (Obj.mapSeq fun _ => (#[] : Array Value))).push (seqObj "tuple" its.toArray 0)).push (seqObj "list" #[] 0)).get? b = some o := fun b o e =>
    PySem.W.sortingHeap_old (vs := its) (by rw [← hA]; exact Nat.ne_of_lt (Nat.lt_succ_of_lt (Heap.lt_size e))) (PySem.W.copyHeap_old e)
  have gA : ((((PySem.W.copyHeap s.heap its).update pa1 (Obj.mapSeq fun _ => (#[] : Array Value))).push (seqObj "tuple" its.toArray 0)).push (seqObj "list" #[] 0)).get? pa1 = some (seqObj "list" #[] ep1) := Heap.get?_push_of_some _ (Heap.get?_push_of_some _ hoA1)
  have gK : ((((PySem.W.copyHeap s.heap its).update pa1 (Obj.mapSeq fun _ => (#[] : Array Value))).push (seqObj "tuple" its.toArray 0)).push (seqObj "list" #[] 0)).get? kS = some (seqObj "list" #[] 0) := by
    rw [← hkS, ← hA]
    exact Heap.get?_push_size _ rfl
  have hne : kS ≠ pa1 := by omega
  have I2 := I.kept (t' := s.toks) k2
  have f2 : ∀ b ∈ [pa1, kS], FpOk X pins H b := fun b hb2 => by
    simp only [List.mem_cons, List.not_mem_nil, or_false] at hb2
    have hle : s.heap.objs.size ≤ b := by rcases hb2 with rfl | rfl <;> omega
    exact I.fpOk hle (I.hok.fresh hle)
  unfold ksk_rest
  refine wpAny_bind (wpAny_rule ?_)
  first
    | rw [List.forIn_toArray]
    | (rw [← Array.forIn_toList]; simp only [List.toList_toArray])
  have huA : X.A.in1.in1.units = X.A.units + 2 := rfl
  refine wpAny_bind (ksk_fold (fun i s' => ∃ (H' : Hp) (kA : Array Value) (n : Nat) (ys : List V), Inv X pins σ H' s' ∧ (∀ b ∈ [pa1, kS], FpOk X pins H' b) ∧ s'.heap.get? kS = some (seqObj "list" kA n) ∧ s'.heap.get? pa1 = some (seqObj "list" #[] ep1) ∧ OwnOk X.K ω H' ∧ Kp (dom ω) H (dom ω) H' ∧ Vals ys kA.toList ∧ RpA X.K (hid (dom ω) H') ys ((ds.take i).map key)) its 0 _ ⟨H, #[], 0, [], I2, f2, gK, gA, own, Kp.refl _ _, .nil, .nil⟩ ?step ?done)
  case step =>
    rintro i x s' hx ⟨H', kA, n, ys, I', hf, nk, na, own', kp', rk, rpk⟩
    simp only [Nat.zero_add] at rpk ⊢
    have hi : i < its.length := (List.getElem?_eq_some_iff.mp hx).1
    obtain ⟨d, hd⟩ : ∃ d, ds[i]? = some d := ⟨_, List.getElem?_eq_getElem (by omega)⟩
    obtain ⟨v, hv, rd⟩ := hra.get hd
    have rx : RelV v x := by
      obtain ⟨u, hu1, hu2⟩ := rv.get hv
      rw [hx] at hu1
      cases hu1
      exact hu2
    have hpin : ∀ p ∈ (pa1, seqObj "list" #[] ep1) :: (kS, seqObj "list" kA n) :: pins, s'.heap.get? p.1 = some p.2 ∧ H' p.1 = none ∧ p.1 ≠ X.env.locals ∧ p.1 ∉ X.fs ∧ ∀ v, p.2.data ≠ .cell v := fun p hp => by
      rcases List.mem_cons.mp hp with rfl | hp
      · obtain ⟨z0, z1, z2, _⟩ := hf pa1 (by simp)
        exact ⟨na, z0, z1, z2, fun _ z => by cases z⟩
      · rcases List.mem_cons.mp hp with rfl | hp
        · obtain ⟨z0, z1, z2, _⟩ := hf kS (by simp)
          exact ⟨nk, z0, z1, z2, fun _ z => by cases z⟩
        · exact I'.pin p (List.mem_append_right _ hp)
    have Ip := I'.pins_of hpin
    have sp : spD X.K C [v] H' (fun kv H'' => OwnOk X.K ω H'' ∧ Kp (dom ω) H' (dom ω) H'' ∧ Rp X.K (hid (dom ω) H'') kv (key d)) fun _ _ _ => False :=
      ⟨ω, [.dat d], fun ω2 c => ω2 = ω ∧ c = .dat (key d), .cons (rd.mono kp') .nil, own', hkey d (List.mem_of_getElem? hd) _ ⟨rfl, rfl⟩, fun ω2 c kv H'' ⟨z1, z2⟩ o k oc => by
        subst z1; subst z2
        exact ⟨o, k, oc⟩⟩
    refine wpAny_bind (wpAny_attempt (wpAny_mono (call_ownE (Er := fun _ _ => False) G hb hr.in1.in1 Ip.env0.in1.in1 Ip (.cons rx .nil) rfl sp) (fun u s'' he => ?_) fun _ _ hF => hF.elim))
    obtain ⟨kv, H'', Iq, ru, own'', kp'', rp''⟩ := he
    have pA := Iq.pin (pa1, seqObj "list" #[] ep1) (List.mem_append_right _ List.mem_cons_self)
    have pK := Iq.pin (kS, seqObj "list" kA n) (List.mem_append_right _ (List.mem_cons_of_mem _ List.mem_cons_self))
    have I3 := Iq.pins_of (pins' := pins) fun p hp => Iq.pin p (List.mem_append_right _ (List.mem_cons_of_mem _ (List.mem_cons_of_mem _ hp)))
    have f3 : ∀ b ∈ [pa1, kS], FpOk X pins H'' b := fun b hb2 => by
      have hfb := hf b hb2
      simp only [List.mem_cons, List.not_mem_nil, or_false] at hb2
      rcases hb2 with rfl | rfl
      · exact ⟨pA.2.1, hfb.2⟩
      · exact ⟨pK.2.1, hfb.2⟩
    have hkl : kA.size ≤ its.length := by
      have g1 := rk.length
      have g2 := rpk.len
      rw [List.length_map, List.length_take] at g2
      have g3 : kA.toList.length = kA.size := Array.length_toList
      omega
    obtain ⟨n2, hn2⟩ : ∃ n2, (s''.heap.update kS (Obj.mapSeq (·.push u))).get? kS = some (seqObj "list" (kA.push u) n2) := ⟨_, get?_update_seq pK.1 (·.push u)⟩
    have oth : ∀ b o, b ≠ kS → s''.heap.get? b = some o → (s''.heap.update kS (Obj.mapSeq (·.push u))).get? b = some o := fun b o hb2 e => by rw [Heap.get?_update_ne _ _ _ _ hb2]; exact e
    try dsimp only
    refine wpAny_bind (listUpdate_at pK.1 rfl ?_ (Nat.le_trans hkl hzi) (Nat.le_trans (Nat.le_of_eq (Array.size_push ..)) (Nat.succ_le_succ (Nat.le_trans hkl hzi))))
    refine wpAny_pure ⟨rfl, H'', kA.push u, n2, ys ++ [kv], I3.turnedL (t' := s''.toks) (ch := [kS]) (fun b o hb2 e => oth b o (by simpa using hb2) e) (fun b hb2 => f3 b (List.mem_cons_of_mem _ hb2)), f3, hn2, oth _ _ hne.symm pA.1, own'', kp'.trans kp'', ?_, ?_⟩
    · rw [Array.toList_push]
      exact vals_snoc rk ru
    · rw [List.take_add_one, hd, List.map_append]
      exact (rpk.mono kp'').append (.cons rp'' .nil)
  case done =>
    rintro s' ⟨H', kA, n, ys, I', hf, nk, na, own', kp', rk, rpk⟩
    have e3 : ds.take (0 + its.length) = ds := List.take_of_length_le (by omega)
    rw [e3] at rpk
    have reads := reads_of I' hsm rk rpk fun k hk => by
      obtain ⟨d, hd, rfl⟩ := List.mem_map.mp hk
      exact (ko.ok d hd).1
    have hsz : kA.size = its.length := by
      have g1 := rk.length
      have g2 := rpk.len
      rw [List.length_map] at g2
      have g3 : kA.toList.length = kA.size := Array.length_toList
      omega
    try dsimp only
    refine wpAny_bind (listItems_at nk rfl ?_)
    refine PySem.W.keyH_end (κ := PySem.W.dataKind s'.heap (ds.map key)) (h₁ := dead s'.heap kS) (fun b o _ e => ?_) (dead_none nk) nk na hne (PySem.W.SortsAt.data reads ko.al ko.so fun k hk => ?_) hsz hzi fun h3 tk3 c k3 n3 => ⟨rfl, ?_⟩
    · by_cases z : b = kS
      · rw [z, dead_none nk] at e; cases e
      · rw [dead_ne z] at e; exact e
    · obtain ⟨d, hd, rfl⟩ := List.mem_map.mp hk
      have := (ko.ok d hd).2
      rw [huA]
      omega
    · have I3 := I'.turnedL (h' := h3) (t' := tk3) (ch := [pa1, kS]) (fun b o hb2 e => k3 b o (fun z => hb2 (by simp [z])) (by rw [dead_ne (fun z => hb2 (by simp [z]))]; exact e)) hf
      have hO := PySem.W.keyedOut_each (rev := false) key ⟨s'.heap, kA.toList, ko.al, rfl, reads⟩ (each_mk rv (hra.mono kp'))
      obtain ⟨zs, z1, z2⟩ := each_back hO
      have hna : H' pa1 = none := (hf pa1 (by simp)).1
      have zl : zs.length ≤ sizeLine := by
        rw [z2.len, List.length_mergeSort, ← hra.len]
        exact hz
      have I4 := I3.take (h' := h3) (t' := tk3) (it := pa1) (o := .lst zs) (fun _ _ _ e => e) (hf pa1 (by simp)) ⟨zl, _, c, z1, n3⟩
      exact ⟨.ref pa1, _, I4, rfl, q _ _ (own'.new hna) (kp'.trans (kp_new own' hna)) (new_lst own' hna z2)⟩
section
variable {X : Cx} {ω : Ow} {δ : DL.Env} {a : Expr} {Φ : Ow → Cell → Prop} {pos p1 p2 p3 : Pos} {kf pa : Str} {C : Con} {j k : Nat}
theorem n_sortK (key : PyData → PyData) (hsm : ∃ m, X.base.Ns sysModules m) (R : Rdy X.prog X.w X.K X.mg X.base j kf [pa] C) (hr : Room k X.A) (hm : X.mg "sorted" = none)
    (h : N X ω δ a fun ω1 c => ∃ ds, c = .dat (.list ds) ∧ KeysOk key ds ∧ (∀ d ∈ ds, ∀ Ψ : Ow → Cell → Prop, Ψ ω1 (.dat (key d)) → C [.dat d] ω1 Ψ) ∧ Φ ω1 (.dat (.list (srtD key ds)))) (hjk : j + 2 ≤ k := by decide)
    (hg : Gl X "sorted" := by rfl) (hgk : Gl X kf := by rfl) (hdb : (kf == ("__debug__" : Str)) = false := by decide)
    (ha : starEach [a] X.env = (false, eval a X.env) :: starEach [] X.env := by rfl)
    (he : backTo pos (starEach [a] X.env) = (false, eval a X.env) :: backTo pos (starEach [] X.env) := by rfl) (hpl : (backTo pos (starEach [a] X.env)).any (·.1) = false := by rfl)
    (hall : (backToKw pos (keywordEach [⟨some (Str.ofString "key"), .Name kf p2, p3⟩] X.env)).all (·.1.isSome) = true := by rfl) (hnone : (backToKw pos (keywordEach [⟨some (Str.ofString "key"), .Name kf p2, p3⟩] X.env)).any (·.1.isNone) = false := by rfl) (hks : (backToKw pos (keywordEach [⟨some (Str.ofString "key"), .Name kf p2, p3⟩] X.env)).filterMap (·.1) = [Str.ofString "key"] := by rfl) :
    N X ω δ (.Call (.Name "sorted" p1) [a] [⟨some (Str.ofString "key"), .Name kf p2, p3⟩] pos) Φ := by
  obtain ⟨f, fd, G, hmf, hk, hb⟩ := R.ex
  have hu := room_u64 hr
  refine n_lift (pe_callBK (cr_sortK hsm G hb (hr.mono hjk) hu (key := key)) hg hm (by decide +kernel) (pa_cons (WE.pe X a) pa_nil ha) (pk_cons (pe_glob (v := .ref f) hgk hmf rfl hdb) pk_nil) (he := he) (hpl := hpl) (hall := hall) (hnone := hnone) (hks := hks)) fun σ H Q s q => h σ H _ s fun ω1 c v H1 ⟨ds, e1, ko, hkey, f1⟩ s1 k1 o1 => ?_
  subst e1
  cases o1 with
  | @lst l xs _ hl hra =>
  exact ⟨ω1, l, ds, rfl, rfl, s1.own, .lst hl hra, ko, hkey, fun v H' o kp r => q ω1 _ v H' f1 ⟨s1.env.mono kp, o⟩ (k1.trans kp) r⟩
end
end DL

namespace DL
open PySem PySem.Spec L2 PyProof.Rows
/-! ## dicts whose keys are tuples of any things: an owned dict, its keys in order -/
section
variable {X : Cx} {pins : List (Addr × Obj)} {σ : L2.St} {H : Hp} {s : Shared} {O : List Addr}
mutual
theorem nested_is (I : Inv X pins σ H s) : ∀ (k : NestedKey) {v : V} {u : Value}, Rp X.K (hid O H) v k.data → RelV v u → NestedIs s.heap k u
  | .none, v, u, r, rv => by
    cases r
    obtain rfl : u = Value.none := rv
    exact .none
  | .num i, v, u, r, rv => by
    cases r
    obtain ⟨t, rfl⟩ := rv
    exact .int i t
  | .text x, v, u, r, rv => by
    cases r
    obtain ⟨t, rfl⟩ := rv
    exact .text x t
  | .tup ks, v, u, r, rv => by
    have r : Rp X.K (hid O H) v (.tuple (NestedKey.datas ks)) := r
    cases r with
    | @tup a xs _ sq ra =>
      obtain rfl : u = Value.ref a := rv
      obtain ⟨its, rx, ⟨o, h1, h2, n, h3⟩, _⟩ := I.tuple (sqt_hid sq)
      exact .tup h1 h2 h3 (nested_all I ks ra rx)
theorem nested_all (I : Inv X pins σ H s) : ∀ (ks : List NestedKey) {vs : List V} {us : List Value}, RpA X.K (hid O H) vs (NestedKey.datas ks) → Vals vs us → NestedAll s.heap ks us
  | [], vs, us, r, rv => by
    cases r
    cases rv
    exact .nil
  | k :: ks, vs, us, r, rv => by
    have r : RpA X.K (hid O H) vs (k.data :: NestedKey.datas ks) := r
    cases r with
    | cons r1 ra =>
      cases rv with
      | cons rv1 rva => exact .cons (nested_is I k r1 rv1) (nested_all I ks ra rva)
end
end
abbrev NEnt := NestedKey × Addr × Value
def kdF (P : Program) (w : World) (D : Addr) (xs : List NEnt) (h : Heap) : Prop := ∃ o es ep, h.get? D = some o ∧ o.ExactDict ∧ o.data = .dict es ep ∧ es.toList = xs.map (entryOfKey (nestedKind P w)) ∧ (xs.map (·.1)).Nodup
def kdO (P : Program) (w : World) (D : Addr) (xs : List NEnt) : HO := .ext (kdF P w D xs)
theorem kd_ok {P : Program} {w : World} {D : Addr} {xs : List NEnt} {H : Hp} {h : Heap} (k : kdF P w D xs h) : ObjOk P w H h D (kdO P w D xs) :=
  ⟨k, let ⟨o, _, _, e, _⟩ := k; ⟨o, e⟩, fun _ _ ⟨o, es, ep, e, r⟩ g => ⟨o, es, ep, g o e, r⟩⟩
theorem kd_at {P : Program} {w : World} {D : Addr} {xs : List NEnt} {H : Hp} {h : Heap} (ok : HOk P w H h) (e : H D = some (kdO P w D xs)) : kdF P w D xs h := (show ObjOk P w H h D (kdO P w D xs) from ok D _ e).1
/-- the entries stand for keys and data -/
inductive KdOk (K : PySem.W.Frag) (H : Hp) : List NEnt → List (NestedKey × PyData) → Prop
  | nil : KdOk K H [] []
  | cons {k : NestedKey} {a : Addr} {u : Value} {v : V} {d : PyData} {xs : List NEnt} {ks : List (NestedKey × PyData)} : Rp K H (.ref a) k.data → k.depth ≤ 8 → RelV v u → Rp K H v d → KdOk K H xs ks → KdOk K H ((k, a, u) :: xs) ((k, d) :: ks)
theorem KdOk.mono {K : PySem.W.Frag} {H H' : Hp} (e : Same H H') : ∀ {xs : List NEnt} {ks : List (NestedKey × PyData)}, KdOk K H xs ks → KdOk K H' xs ks
  | _, _, .nil => .nil
  | _, _, .cons a b c d r => .cons (a.mono e) b c (d.mono e) (KdOk.mono e r)
theorem KdOk.len {K : PySem.W.Frag} {H : Hp} : ∀ {xs : List NEnt} {ks : List (NestedKey × PyData)}, KdOk K H xs ks → xs.length = ks.length
  | _, _, .nil => rfl
  | _, _, .cons _ _ _ _ r => by rw [List.length_cons, List.length_cons, KdOk.len r]
theorem KdOk.keys {K : PySem.W.Frag} {H : Hp} : ∀ {xs : List NEnt} {ks : List (NestedKey × PyData)}, KdOk K H xs ks → xs.map (·.1) = ks.map (·.1)
  | _, _, .nil => rfl
  | _, _, .cons _ _ _ _ r => by rw [List.map_cons, List.map_cons, KdOk.keys r]
def hasN (ks : List (NestedKey × PyData)) (k : NestedKey) : Bool := ks.any fun x => decide (x.1 = k)
def putN (ks : List (NestedKey × PyData)) (k : NestedKey) (d : PyData) : List (NestedKey × PyData) := if hasN ks k = true then ks.map (fun x => if x.1 = k then (x.1, d) else x) else ks ++ [(k, d)]
theorem KdOk.has {K : PySem.W.Frag} {H : Hp} {k : NestedKey} : ∀ {xs : List NEnt} {ks : List (NestedKey × PyData)}, KdOk K H xs ks → (atKey xs k).isSome = hasN ks k
  | _, _, .nil => rfl
  | _, _, .cons (k := k0) (a := a) (u := u) (d := d) (xs := xs) (ks := ks) _ _ _ _ r => by
    have ih := KdOk.has (k := k) r
    unfold atKey hasN at ih ⊢
    rw [List.find?_cons, List.any_cons]
    by_cases h : k0 = k
    · rw [decide_eq_true h]; rfl
    · rw [decide_eq_false h, Bool.false_or, ← ih]
theorem KdOk.snoc {K : PySem.W.Frag} {H : Hp} {k : NestedKey} {a : Addr} {u : Value} {v : V} {d : PyData} (h1 : Rp K H (.ref a) k.data) (h2 : k.depth ≤ 8) (h3 : RelV v u) (h4 : Rp K H v d) : ∀ {xs : List NEnt} {ks : List (NestedKey × PyData)}, KdOk K H xs ks → KdOk K H (xs ++ [(k, a, u)]) (ks ++ [(k, d)])
  | _, _, .nil => .cons h1 h2 h3 h4 .nil
  | _, _, .cons a b c d r => .cons a b c d (KdOk.snoc h1 h2 h3 h4 r)
theorem KdOk.over {K : PySem.W.Frag} {H : Hp} {k : NestedKey} {u : Value} {v : V} {d : PyData} (h3 : RelV v u) (h4 : Rp K H v d) : ∀ {xs : List NEnt} {ks : List (NestedKey × PyData)}, KdOk K H xs ks → KdOk K H (xs.map (putAt k u)) (ks.map fun x => if x.1 = k then (x.1, d) else x)
  | _, _, .nil => .nil
  | _, _, .cons (k := k0) a b c e r => by
    rw [List.map_cons, List.map_cons]
    unfold putAt
    by_cases h : k0 = k
    · rw [if_pos h, if_pos h]
      exact .cons a b h3 h4 (KdOk.over h3 h4 r)
    · rw [if_neg h, if_neg h]
      exact .cons a b c e (KdOk.over h3 h4 r)
theorem KdOk.put {K : PySem.W.Frag} {H : Hp} {k : NestedKey} {a : Addr} {u : Value} {v : V} {d : PyData} {xs : List NEnt} {ks : List (NestedKey × PyData)} (h : KdOk K H xs ks) (h1 : Rp K H (.ref a) k.data) (h2 : k.depth ≤ 8) (h3 : RelV v u) (h4 : Rp K H v d) : KdOk K H (storedH xs k a u) (putN ks k d) := by
  have e := h.has (k := k)
  unfold storedH putN
  rw [← e]
  split
  · exact h.over h3 h4
  · exact h.snoc h1 h2 h3 h4
/-- an owned dict with such keys -/
def kdP (P : Program) (w : World) (D : Addr) (ks : List (NestedKey × PyData)) : OwnP := ⟨fun K H o => ∃ xs, o = kdO P w D xs ∧ KdOk K H xs ks ∧ (D == sysModules) = false, fun _ _ _ _ e ⟨xs, h1, h2, h3⟩ => ⟨xs, h1, h2.mono e, h3⟩⟩
section
variable {X : Cx} {pins : List (Addr × Obj)} {σ : L2.St} {H : Hp} {s : Shared} {E : Value → Shared → Prop} {D a : Addr} {xs : List NEnt} {ks : List (NestedKey × PyData)} {k : NestedKey} {u : Value} {Q : Unit → Shared → Prop} {O : List Addr}
theorem kd_dict (I : Inv X pins σ H s) (hD : H D = some (kdO X.prog X.w D xs)) (hk : KdOk X.K (hid O H) xs ks) : s.heap.DictOfH (nestedKind X.prog X.w) D xs := by
  obtain ⟨o, es, ep, e, c, d, l, n⟩ := kd_at I.hok hD
  refine ⟨o, es, ep, e, c, d, l, ?_, n⟩
  clear hD e c d l n
  induction hk with
  | nil => intro x hx; cases hx
  | cons a b c d r ih =>
    intro x hx
    rcases List.mem_cons.mp hx with rfl | hx
    · exact ⟨nested_is I _ a rfl, b⟩
    · exact ih x hx
theorem d_setN (hu : X.A.units + 64 < cLine) (I : Inv X pins σ H s) (hD : H D = some (kdO X.prog X.w D xs)) (hk : KdOk X.K (hid O H) xs ks) (hz : xs.length < sizeLine) (ha : Rp X.K (hid O H) (.ref a) k.data) (hd : k.depth ≤ 8)
    (h : ∀ s', Inv X pins σ (upd H D (kdO X.prog X.w D (storedH xs k a u))) s' → Q () s') : wpAny (model X.prog X.w) X.A (dictSet D (.ref a) u) Q E s := by
  refine wpAny_dictSet_heap (knd := nestedKind X.prog X.w) (show X.A.units + 8 < cLine by omega) ⟨nested_is I _ ha rfl, hd⟩ (kd_dict I hD hk) (fun h' dd sb => h _ ?_) (Nat.le_of_lt hz)
  obtain ⟨o, es, ep, e, c, d, l, _, n⟩ := dd
  exact d_write I (by rw [hD]; exact True.intro) sb ⟨o, e⟩ (kd_ok ⟨o, es, ep, e, c, d, l, n⟩)
end
/-! ## list(d) -/
section
variable {X : Cx}
theorem call_listKd (hc : X.calm = true) : CallR X (.type "list") (fun vs H Q => ∃ (D : Addr) (xs : List NEnt), vs = [V.ref D] ∧ H D = some (kdO X.prog X.w D xs) ∧ (D == sysModules) = false ∧ xs.length ≤ sizeLine ∧ ∀ p, H p = none → Q (.ref p) (upd H p (.lst (xs.map fun x => V.ref x.2.1)))) := by
  intro pins s σ H vs us Q I r h
  obtain ⟨D, xs, rfl, hD, hs, hz, q⟩ := h
  obtain ⟨u, rfl, rx⟩ := r.one
  cases rx
  obtain ⟨o, es, ep, ho, hx, hdt, he, hn⟩ := kd_at I.hok hD
  have hsize : es.size = xs.length := size_of_entries he
  refine PySem.W.kdl_call (kdl_raw hs hx hdt) (I.ok.hd hc) ho (by rw [hsize]; exact hz) fun h' tk got c' kp e it => ?_
  have hlen : got.toList.length = xs.length := by
    rw [Array.length_toList, it.1]
    exact hsize
  have hgot : got.toList = (xs.map fun x => x.2.1).map Value.ref := by
    refine List.ext_getElem? fun j => ?_
    by_cases hj : j < xs.length
    · have hx2 : xs[j]? = some xs[j] := List.getElem?_eq_getElem hj
      have hg : got.toList[j]? = some (got.toList[j]'(by omega)) := List.getElem?_eq_getElem (by omega)
      obtain ⟨en, hen, hv⟩ := it.2 j _ (by rw [← Array.getElem?_toList]; exact hg)
      have hq := entry_at he j
      rw [hen, hx2] at hq
      have hq2 : en = entryOfKey (nestedKind X.prog X.w) xs[j] := Option.some.inj hq
      rw [hg, hv, hq2, List.getElem?_map, List.getElem?_map, hx2]
      rfl
    · rw [List.getElem?_eq_none (by omega), List.getElem?_eq_none (by rw [List.length_map, List.length_map]; omega)]
  have rv : Vals ((xs.map fun x => x.2.1).map V.ref) got.toList := by rw [hgot]; exact vals_refs _
  have e2 : (xs.map fun x => V.ref x.2.1) = (xs.map fun x => x.2.1).map V.ref := by rw [List.map_map]; rfl
  rw [← e2] at rv
  refine ⟨.ref s.heap.objs.size, _, I.laid (t' := tk) (o := .lst (xs.map fun x => V.ref x.2.1)) kp (Nat.le_refl _) ?_, rfl, q _ (I.hok.fresh (Nat.le_refl _))⟩
  exact ⟨by rw [List.length_map]; exact hz, got.toList, c', rv, by rw [Array.toArray_toList]; exact e⟩
end
theorem kd_refs {K : PySem.W.Frag} {H : Hp} : ∀ {xs : List NEnt} {ks : List (NestedKey × PyData)}, KdOk K H xs ks → RpA K H (xs.map fun x => V.ref x.2.1) (ks.map fun x => x.1.data)
  | _, _, .nil => .nil
  | _, _, .cons a _ _ _ r => .cons a (kd_refs r)
section
variable {X : Cx} {ω : Ow} {δ : DL.Env} {a : Expr} {Φ : Ow → Cell → Prop} {pos p1 : Pos}
theorem n_listKd (hc : X.calm = true) (hm : X.mg "list" = none) (h : N X ω δ a fun ω1 c => ∃ D ks ω2, ω1 = (D, kdP X.prog X.w D ks) :: ω2 ∧ c = .raw (.ref D) ∧ ks.length ≤ 100000 ∧ Φ ω2 (.dat (.list (ks.map fun x => x.1.data))))
    (hg : Gl X "list" := by rfl) (he : starEach [a] X.env = (false, eval a X.env) :: starEach [] X.env := by rfl) : N X ω δ (.Call (.Name "list" p1) [a] [] pos) Φ :=
  n_callTy (call_listKd hc) hm (na_cons (h.imp fun ω1 c ⟨D, ks, ω2, e1, e2, hl, f⟩ => na_nil fun vs σ H Q s o q => by
    subst e1; subst e2
    obtain ⟨v, rfl, ov⟩ := cells1 o
    obtain rfl : v = V.ref D := ov
    obtain ⟨u, m1, xs, rfl, m2, m3⟩ := s.own.at_ D _ List.mem_cons_self
    refine ⟨D, xs, rfl, m1, m3, by rw [m2.len]; exact Nat.le_trans hl (by decide), fun p hp => ?_⟩
    have s1 := s.new (o := .lst (xs.map fun x => V.ref x.2.1)) hp
    refine q ω2 _ _ _ f s1.drop ((kp_new s.own hp).trans (kp_drop (P := kdP X.prog X.w D ks))) ?_
    have r0 : RpA X.K (hid (dom ((D, kdP X.prog X.w D ks) :: ω2)) H) (xs.map fun x => V.ref x.2.1) (ks.map fun x => x.1.data) := kd_refs m2
    exact (new_lst s.own hp r0).mono (kp_drop (P := kdP X.prog X.w D ks))) he) hg (he := he)
end
/-! ## {k: v for x in ..} with such keys -/
section
variable {X : Cx}
def tDn (P : Program) (w : World) (wi : TI) (g : TG) (tt : TT) (tk tv : TE) (vs : List Nat) : TE := fun σ H Q => wi σ H fun J H1 => ∀ D, H1 D = none → (D == sysModules) = false → ∃ W : Nat → Nat → Hp → Prop, (∃ m, W 0 m (upd H1 D (kdO P w D []))) ∧ ∀ i m H, W i m H →
  (J.stop i H ∧ Q (.ref D) H) ∨ (J.go i H ∧ ∃ Nx : Hp → Prop, (∀ H', Nx H' → ∃ m', m' < m ∧ W (i + 1) m' H') ∧ ∀ x H', J.yld i H x H' → g x (wipe σ vs) H' fun σ2 H2 => wipe σ2 vs = wipe σ vs ∧ tt σ2 H2 fun b H3 =>
    if b = true then tk σ2 H3 fun y H4 => tv σ2 H4 fun z H5 => ∃ (xs : List NEnt) (ks : List (NestedKey × PyData)) (k : NestedKey) (a : Addr) (O : List Addr), y = .ref a ∧ H5 D = some (kdO P w D xs) ∧ KdOk X.K (hid O H5) xs ks ∧ xs.length < sizeLine ∧ Rp X.K (hid O H5) (.ref a) k.data ∧ k.depth ≤ 8 ∧ ∀ u, RelV z u → Nx (upd H5 D (kdO P w D (storedH xs k a u))) else Nx H3)
theorem kd_new (h : Heap) (P : Program) (w : World) : kdF P w h.objs.size [] (h.push { cls := .type "dict", data := .dict #[] }) :=
  ⟨_, #[], 0, Heap.get?_push_size _ rfl, ⟨rfl, rfl, rfl⟩, rfl, rfl, List.nodup_nil⟩
theorem dn_core {pins : List (Addr × Obj)} {s : Shared} {σ : L2.St} {H : Hp} {Q : VK} {kx vx tg iter : Expr} {ifs : List Expr} {scope : Scope} {own : List (Str × Nat)} {pos pos' : Pos} {wi : TI} {g : TG} {tt : TT} {tk tv : TE} {use : Option (Value → Sem Unit)} {Qf : Value → Shared → Prop}
    (hu : X.A.units + 64 < cLine) (hc : X.calm = true) (hN : X.N.Nodup) (I : Inv X pins σ H s) (hi : PI X tg iter wi) (ok : BlkOk X.N X.env.scope scope own)
    (hg : BlkF X scope fun Y => PG Y tg g) (ht : BlkF X scope fun Y => PTs Y ifs tt) (hk : BlkF X scope fun Y => PE Y kx tk) (he : BlkF X scope fun Y => PE Y vx tv) (hs : ∀ x, foldedSetIterable iter X.env x = pure x)
    (h : tDn (X := X) X.prog X.w wi g tt tk tv (own.map (·.2)) σ H Q)
    (back : ∀ D C s' m H', Inv X pins σ H' s' → Q (.ref D) H' → s'.heap.Ns C m → FpOk X pins H' C → compPost (model X.prog X.w) X.A X.xe use Qf (.ref D) C (.ok .next) s') :
    wpAny (model X.prog X.w) X.A (comprehension (.DictComp kx vx [⟨tg, iter, ifs, 0⟩] scope pos) scope X.env pos' newDict false (eval iter X.env) use) Qf X.xe s := by
  have clos : ∀ y ∈ scope.names, y.2 = .free → ∃ c, X.env.cells.lookup y.1 = some c := fun y hy e => by
    rcases ok.free y hy e with z | z
    · exact I.ok.has _ (.inl z)
    · exact I.ok.has _ (.inr z)
  refine wpAny_comprehension_free (use := use) rfl hs (closure_ok clos) ok.kind (fun y hy e => by rw [ok.uniq y hy, e])
    (thn (hi.run pins s σ H _ I h) fun xv s1 hx => thn hx fun itv s2 got => ?_)
  obtain ⟨it, fp, tn, J, H2, e, I2, T, st2, f2, q⟩ := got
  subst e
  refine wpAny_newObj_type (newEnv_comp ?_)
  have hsys : (s2.heap.objs.size == sysModules) = false := by
    have := I2.big
    rw [beq_eq_false_iff_ne]
    exact Nat.ne_of_gt this
  generalize hD : s2.heap.objs.size = D at hsys
  have hDn : H2 D = none := I2.hok.fresh (Nat.le_of_eq hD)
  obtain ⟨W, ⟨m0, w0⟩, turn⟩ := q D hDn hsys
  generalize hsN : ({ s2 with heap := s2.heap.push { cls := .type "dict", data := .dict #[] } } : Shared) = sN
  have hpN : sN.heap = s2.heap.push { cls := .type "dict", data := .dict #[] } := by rw [← hsN]
  have IN : Inv X pins σ (upd H2 D (kdO X.prog X.w D [])) sN := by
    rw [← hsN]
    refine I2.laid (t' := s2.toks) (fun b o e => Heap.get?_push_of_some _ e) (Nat.le_of_eq hD) ?_
    rw [← hD]
    exact kd_ok (kd_new s2.heap X.prog X.w)
  have low : ∀ b ∈ fp, b < s2.heap.objs.size := fun b hb => by
    obtain ⟨o, e, _⟩ := T.obj _ _ st2 b hb
    exact Heap.lt_size e
  have fN : ∀ b ∈ fp, FpOk X pins (upd H2 D (kdO X.prog X.w D [])) b ∧ b < sN.heap.objs.size := fun b hb => by
    have hlt := low b hb
    refine ⟨⟨?_, (f2 b hb).2⟩, by rw [hpN, Heap.size_push]; exact Nat.lt_succ_of_lt hlt⟩
    rw [upd_ne (by rw [← hD]; exact Nat.ne_of_lt hlt)]
    exact (f2 b hb).1
  have stN : tn 0 sN.heap := T.keep _ _ _ st2 fun b _ o e => by rw [hpN]; exact Heap.get?_push_of_some _ e
  have IB := block_start IN ok hN fN
  have pg := hg sN (upd H2 D (kdO X.prog X.w D [])) sN.heap.objs.size (cellsFrom (sN.heap.objs.size + 1) scope.names (cloFrom X.env.cells scope.names [])) fp
  have pt := ht sN (upd H2 D (kdO X.prog X.w D [])) sN.heap.objs.size (cellsFrom (sN.heap.objs.size + 1) scope.names (cloFrom X.env.cells scope.names [])) fp
  have pk := hk sN (upd H2 D (kdO X.prog X.w D [])) sN.heap.objs.size (cellsFrom (sN.heap.objs.size + 1) scope.names (cloFrom X.env.cells scope.names [])) fp
  have pv := he sN (upd H2 D (kdO X.prog X.w D [])) sN.heap.objs.size (cellsFrom (sN.heap.objs.size + 1) scope.names (cloFrom X.env.cells scope.names [])) fp
  show codeAny _ _ (.compStart (.DictComp kx vx [⟨tg, iter, ifs, 0⟩] scope pos) 0 (.ref it) (.ref D) (compEnvC scope (cellsFrom (sN.heap.objs.size + 1) scope.names (cloFrom X.env.cells scope.names [])) sN.heap.objs.size X.env)) (compPost (model X.prog X.w) X.A X.xe use Qf (.ref D) sN.heap.objs.size) { sN with heap := pushCells (sN.heap.push { cls := .type "dict", data := .dict #[] }) scope.names }
  have none_fp : ∀ b ∈ fp, (upd H2 D (kdO X.prog X.w D [])) b = none := fun b hb => (fN b hb).1.1
  generalize hce : compEnvC scope (cellsFrom (sN.heap.objs.size + 1) scope.names (cloFrom X.env.cells scope.names [])) sN.heap.objs.size X.env = ce at IB pg pt pk pv ⊢
  have locC : ce.locals = sN.heap.objs.size := by subst hce; rfl
  generalize hHN : upd H2 D (kdO X.prog X.w D []) = HN at IN IB pg pt pk pv w0 none_fp fN
  generalize hsB : ({ sN with heap := pushCells (sN.heap.push { cls := .type "dict", data := .dict #[] }) scope.names } : Shared) = sB at IB ⊢
  have stB : tn 0 sB.heap := T.keep _ _ _ stN fun b _ o e => by rw [← hsB]; exact pushCells_keeps _ _ _ _ (Heap.get?_push_of_some _ e)
  have stand : ∀ {σ' : L2.St} {H' : Hp} {s' : Shared}, Inv (X.blk sN HN scope ce fp) [] σ' H' s' → (∀ b ∈ fp, H' b = none) → ∀ b ∈ fp, FpOk (X.blk sN HN scope ce fp) [] H' b := fun {σ' H' s'} I' hn b hb =>
    ⟨hn b hb, (I'.ok.exf b hb).1, I'.ok.exfs b hb, .inl hb, fun x c e => (I'.ok.exf b hb).2 x c e, fun p hp => absurd (show p ∈ ([] : List (Addr × Obj)) ++ [] from hp) (by simp)⟩
  have loop : codeAny (model X.prog X.w) X.A (.compLoop (.DictComp kx vx [⟨tg, iter, ifs, 0⟩] scope pos) 0 (.ref it) (.ref D) ce) (compPost (model X.prog X.w) X.A X.xe use Qf (.ref D) sN.heap.objs.size) sB := by
    refine compLoop_anyD (fun n s' => ∃ i H', Inv (X.blk sN HN scope ce fp) [] (wipe σ (own.map (·.2))) H' s' ∧ tn i s'.heap ∧ (∀ b ∈ fp, H' b = none) ∧ W i n H') ?_ m0 ⟨0, HN, IB, stB, none_fp, w0⟩
    rintro n s5 ⟨i, H5, I5, st5, n5, w5⟩
    rcases turn i n H5 w5 with ⟨stop, qq⟩ | ⟨go, Nx, hNx, step⟩
    · have td := T.done (X.blk sN HN scope ce fp) rfl rfl rfl hc i [] s5 _ H5 (fun _ _ => False) I5 (stand I5 n5) st5 stop
      refine thnF td fun r s6 ⟨hr, I6⟩ => ?_
      subst hr
      have I7 : Inv X pins σ H5 s6 := IN.call' (ch := fp) I6.os I6.base I6.hok I6.bare fun b hb => ⟨(fN b hb).1.2.2.2.1, (fN b hb).1.2.1, (fN b hb).1.2.2.2.2.1, (fN b hb).1.2.2.2.2.2⟩
      have nC : H5 sN.heap.objs.size = none := by
        have z : H5 ce.locals = none := I6.free
        rw [locC] at z
        exact z
      obtain ⟨m, hn, _⟩ := I6.loc
      have hn : s6.heap.Ns ce.locals m := hn
      rw [locC] at hn
      exact back D sN.heap.objs.size s6 m H5 I7 qq hn (IN.fpOk (Nat.le_refl _) nC)
    · have ti := T.item (X.blk sN HN scope ce fp) rfl rfl rfl hc i [] s5 _ H5 (fun _ _ => False) I5 (stand I5 n5) st5 go
      refine thnF ti fun r s6 ⟨u, hr, h6⟩ => ?_
      subst hr
      refine thnF h6 fun _ s7 ⟨x, H7, I7, r7, y7, st7, n7⟩ => ?_
      have J7 := I7.pinned (stand I7 n7) (T.obj _ _ st7)
      refine thnF (pg.run _ s7 _ H7 x u _ J7 r7 (step x H7 y7)) fun _ s8 ⟨σ8, H8, I8, hw8, q8⟩ => ?_
      refine thnF (pt.run _ s8 σ8 H8 _ I8 q8) fun b s9 ⟨H9, I9, q9⟩ => ?_
      have fin : ∀ {s' : Shared} {H' : Hp}, Inv (X.blk sN HN scope ce fp) ([] ++ pinsAt fp s7.heap) σ8 H' s' → Nx H' → ∃ m, m < n ∧ ∃ i H', Inv (X.blk sN HN scope ce fp) [] (wipe σ (own.map (·.2))) H' s' ∧ tn i s'.heap ∧ (∀ b ∈ fp, H' b = none) ∧ W i m H' := fun {s' H'} I' nx => by
        obtain ⟨m', hm, w'⟩ := hNx H' nx
        have held : ∀ b ∈ fp, ∀ o, s7.heap.get? b = some o → s'.heap.get? b = some o ∧ H' b = none := fun b hb o e =>
          let z := I'.pin (b, o) (List.mem_append_right _ (List.mem_append_right _ (mem_pinsAt hb e)))
          ⟨z.1, z.2.1⟩
        have hlw : (wipe σ (own.map (·.2))).length = σ8.length := by rw [← hw8, wipe_length]
        refine ⟨m', hm, i + 1, H', (I'.unpinned (pins := [])).weak hlw (fun j v e => ?_), T.keep _ _ _ st7 fun b hb o e => (held b hb o e).1, fun b hb => ?_, w'⟩
        · rw [← hw8] at e
          exact (wipe_some e).1
        · obtain ⟨o, e, _⟩ := T.obj _ _ st7 b hb
          exact (held b hb o e).2
      cases b with
      | false =>
        simp only [Bool.false_eq_true, if_false] at q9 ⊢
        exact fin I9 q9
      | true =>
        simp only [if_true] at q9 ⊢
        refine thnF (pk.run _ s9 σ8 H9 _ I9 q9) fun z sK ⟨yk, HK, IK, rK, qK⟩ => ?_
        refine thnF (pv.run _ sK σ8 HK _ IK qK) fun z2 sV ⟨yv, HV, IV, rV, xs, ks, k, a, O, ek, hDV, hkd, hzV, hka, hkd8, nx⟩ => ?_
        subst ek
        obtain rfl : z = Value.ref a := rK
        exact d_setN (X := X.blk sN HN scope ce fp) (u := z2) hu IV hDV hkd hzV hka hkd8 fun sF IF => fin IF (nx z2 rV)
  exact codeAny_compStart_dict loop (T.self X.A 0 _ _ _ stB loop)
theorem pe_dn {kx vx tg iter : Expr} {ifs : List Expr} {scope : Scope} {own : List (Str × Nat)} {pos : Pos} {wi : TI} {g : TG} {tt : TT} {tk tv : TE} (hu : X.A.units + 64 < cLine) (hc : X.calm = true) (hN : X.N.Nodup) (hi : PI X tg iter wi) (ok : BlkOk X.N X.env.scope scope own)
    (hg : BlkF X scope fun Y => PG Y tg g) (ht : BlkF X scope fun Y => PTs Y ifs tt) (hk : BlkF X scope fun Y => PE Y kx tk) (he : BlkF X scope fun Y => PE Y vx tv) (hs : ∀ x, foldedSetIterable iter X.env x = pure x := by intro _; rfl) :
    PE X (.DictComp kx vx [⟨tg, iter, ifs, 0⟩] scope pos) (tDn (X := X) X.prog X.w wi g tt tk tv (own.map (·.2))) := by
  refine ⟨fun pins s σ H Q I h => ?_⟩
  rw [arm_eval_DictComp]
  refine dn_core hu hc hN I hi ok hg ht hk he hs h fun D C s' m H' I' q hn f => ⟨m, hn, fun h'' sb => ?_⟩
  obtain ⟨z0, z1, z2, z3, z4, z5⟩ := f
  exact ⟨.ref D, H', I'.turned (t' := s'.toks) (fun b o hb e => (sb.2 b hb).trans e) z0 z1 z3 z4 z5, rfl, q⟩
end
/-- over a list -/
theorem dn_list {X : Cx} {P : Program} {w : World} {a : Addr} {xs : List V} {g : TG} {tt : TT} {tk tv : TE} {vs : List Nat} {σ : L2.St} {H1 : Hp} {D : Addr} {Qd : Hp → Prop} (Pv : Nat → Hp → Prop) (h0 : Pv 0 (upd H1 D (kdO P w D []))) (hl : ∀ i H, i ≤ xs.length → Pv i H → SqL X.K H a xs)
    (hs : ∀ i x H, xs[i]? = some x → Pv i H → g x (wipe σ vs) H fun σ2 H2 => wipe σ2 vs = wipe σ vs ∧ tt σ2 H2 fun b H3 =>
      if b = true then tk σ2 H3 fun y H4 => tv σ2 H4 fun z H5 => ∃ (ents : List NEnt) (ks : List (NestedKey × PyData)) (k : NestedKey) (a : Addr) (O : List Addr), y = .ref a ∧ H5 D = some (kdO P w D ents) ∧ KdOk X.K (hid O H5) ents ks ∧ ents.length < sizeLine ∧ Rp X.K (hid O H5) (.ref a) k.data ∧ k.depth ≤ 8 ∧ ∀ u, RelV z u → Pv (i + 1) (upd H5 D (kdO P w D (storedH ents k a u))) else Pv (i + 1) H3) (hd : ∀ H, Pv xs.length H → Qd H) :
    ∃ W : Nat → Nat → Hp → Prop, (∃ m, W 0 m (upd H1 D (kdO P w D []))) ∧ ∀ i m H, W i m H →
      ((Itl X.K a).stop i H ∧ Qd H) ∨ ((Itl X.K a).go i H ∧ ∃ Nx : Hp → Prop, (∀ H', Nx H' → ∃ m', m' < m ∧ W (i + 1) m' H') ∧ ∀ x H', (Itl X.K a).yld i H x H' → g x (wipe σ vs) H' fun σ2 H2 => wipe σ2 vs = wipe σ vs ∧ tt σ2 H2 fun b H3 =>
        if b = true then tk σ2 H3 fun y H4 => tv σ2 H4 fun z H5 => ∃ (ents : List NEnt) (ks : List (NestedKey × PyData)) (k : NestedKey) (a : Addr) (O : List Addr), y = .ref a ∧ H5 D = some (kdO P w D ents) ∧ KdOk X.K (hid O H5) ents ks ∧ ents.length < sizeLine ∧ Rp X.K (hid O H5) (.ref a) k.data ∧ k.depth ≤ 8 ∧ ∀ u, RelV z u → Nx (upd H5 D (kdO P w D (storedH ents k a u))) else Nx H3) := by
  refine ⟨fun i m H => m = xs.length - i ∧ i ≤ xs.length ∧ Pv i H, ⟨xs.length, rfl, Nat.zero_le _, h0⟩, ?_⟩
  rintro i m H ⟨rfl, hi, p⟩
  have q := hl i H hi p
  by_cases hlt : i < xs.length
  · refine .inr ⟨⟨xs, xs[i], q, List.getElem?_eq_getElem hlt⟩, Pv (i + 1), fun H' p' => ⟨xs.length - (i + 1), by omega, rfl, hlt, p'⟩, fun x H' y => ?_⟩
    obtain ⟨e, y⟩ := y
    subst e
    exact hs i x _ (y xs q) p
  · have e : i = xs.length := by omega
    subst e
    exact .inl ⟨⟨xs, q, Nat.le_refl _⟩, hd H p⟩
section
variable {X : Cx} {ω : Ow} {δ : DL.Env} {kx vx iter : Expr} {Φ : Ow → Cell → Prop} {pos p1 : Pos} {x : Str} {scope : Scope}
/-- a key that is a tuple -/
def tupK (k : NestedKey) : Prop := (∃ ks, k = .tup ks) ∧ k.depth ≤ 8
theorem n_dn (j : Nat) (hu : X.A.units + 64 < cLine) (hc : X.calm = true) (hn : X.N.Nodup) (hb : BlkOk X.N X.env.scope scope [(x, j)])
    (h : N X ω δ iter fun ω1 c => ∃ ds, c = .dat (.list ds) ∧ ∃ J : Nat → Ow → List (NestedKey × PyData) → Prop, J 0 ω1 [] ∧
      (∀ i ω2 ks D d0, ds[i]? = some d0 → J i ω2 ks → ∃ k d, tupK k ∧ ks.length < 100000 ∧ (BlkF X scope fun Y => N Y ((D, kdP X.prog X.w D ks) :: ω2) ((δ.set j none).set j (some (.dat d0))) kx fun ω3 c => ω3 = (D, kdP X.prog X.w D ks) :: ω2 ∧ c = .dat k.data) ∧
        (BlkF X scope fun Y => N Y ((D, kdP X.prog X.w D ks) :: ω2) ((δ.set j none).set j (some (.dat d0))) vx fun ω3 c => c = .dat d ∧ ∃ ω4, ω3 = (D, kdP X.prog X.w D ks) :: ω4 ∧ J (i + 1) ω4 (putN ks k d))) ∧
      ∀ ω2 ks D, J ds.length ω2 ks → Φ ((D, kdP X.prog X.w D ks) :: ω2) (.raw (.ref D)))
    (hgt : BlkF X scope fun Y => PG Y (.Name x p1) (gName j)) (hs : ∀ y, foldedSetIterable iter X.env y = pure y := by intro _; rfl) : N X ω δ (.DictComp kx vx [{ target := .Name x p1, iter := iter, ifs := [], is_async := 0 }] scope pos) Φ :=
  n_lift (pe_dn (own := [(x, j)]) (g := gName j) (tt := tYes) (tk := fun σ H Q => BlkF X scope fun Y => WE Y kx σ H Q) (tv := fun σ H Q => BlkF X scope fun Y => WE Y vx σ H Q) hu hc hn (pi_list (WE.pe X iter)) hb hgt (fun _ _ _ _ _ => pts_nil) (fun s H C cl fp => ⟨fun pins s' σ' H' Q I q => q s H C cl fp pins s' I⟩) (fun s H C cl fp => ⟨fun pins s' σ' H' Q I q => q s H C cl fp pins s' I⟩) hs) fun σ H Q s q => h σ H _ s fun ω1 c v H1 ⟨ds, e1, J, j0, jt, je⟩ s1 k1 o1 => by
    subst e1
    cases o1 with
    | @lst l xs _ hl hr =>
      refine ⟨l, rfl, ⟨xs, SqL.of (hid_some hl).2⟩, fun D hD hsys => ?_⟩
      have hD0 : (kdP X.prog X.w D []).ok X.K (hid (dom ω1) H1) (kdO X.prog X.w D []) := ⟨[], rfl, .nil, hsys⟩
      refine dn_list (X := X) (a := l) (xs := xs) (g := gName j) (tt := tYes) (tk := fun σ H Q => BlkF X scope fun Y => WE Y kx σ H Q) (tv := fun σ H Q => BlkF X scope fun Y => WE Y vx σ H Q) (vs := [j]) (σ := σ) (H1 := H1) (D := D) (Qd := fun H => Q (.ref D) H) (fun i H' => ∃ ω2 ks, J i ω2 ks ∧ StOk X.K ((D, kdP X.prog X.w D ks) :: ω2) δ σ H' ∧ Kp (dom ω1) H1 (D :: dom ω2) H') ⟨ω1, [], j0, s1.cons hD hD0, (s1.own.cons hD hD0).2⟩ ?_ ?_ ?_
      · rintro i H' _ ⟨ω2, ks, _, _, k2⟩
        exact SqL.of (hid_some (k2 _ _ hl)).2
      · rintro i y H' hy ⟨ω2, ks, hJ, s2, k2⟩
        refine ⟨set_wipe, fun s3 H3 C cl fp => ?_⟩
        obtain ⟨d0, hd0, rd0⟩ := hr.get' hy
        obtain ⟨k, d, ⟨⟨kk, rfl⟩, hdp⟩, hz, hkx, hvx⟩ := jt i ω2 ks D d0 hd0 hJ
        have sB : StOk X.K ((D, kdP X.prog X.w D ks) :: ω2) ((δ.set j none).set j (some (.dat d0))) ((wipe σ [j]).set j (some y)) H' := ⟨(s2.env.wipe j).set (c := .dat d0) (rd0.mono k2) j, s2.own⟩
        refine hkx s3 H3 C cl fp _ _ _ sB fun ω3 c v H4 ⟨e1, e2⟩ s4 k4 o4 => ?_
        subst e1; subst e2
        refine fun s5 H5 C5 cl5 fp5 => hvx s5 H5 C5 cl5 fp5 _ _ _ s4 fun ω5 c5 v5 H6 ⟨e3, ω4, e4, hJ'⟩ s6 k6 o6 => ?_
        subst e3; subst e4
        obtain ⟨u, m1, ents, rfl, m2, m3⟩ := s6.own.at_ D _ List.mem_cons_self
        have rk : Rp X.K (hid (dom ((D, kdP X.prog X.w D ks) :: ω4)) H6) v (NestedKey.tup kk).data := o4.mono (c := .dat (NestedKey.tup kk).data) k6
        obtain ⟨ka, rfl⟩ : ∃ ka, v = .ref ka := by
          have rk' : Rp X.K (hid (dom ((D, kdP X.prog X.w D ks) :: ω4)) H6) v (.tuple (NestedKey.datas kk)) := rk
          cases rk' with
          | tup _ _ => exact ⟨_, rfl⟩
        refine ⟨ents, ks, .tup kk, ka, dom ((D, kdP X.prog X.w D ks) :: ω4), rfl, m1, m2, by rw [m2.len]; exact Nat.lt_of_lt_of_le hz (by decide), rk, hdp, fun u5 ru => ?_⟩
        have ho : (kdP X.prog X.w D (putN ks (.tup kk) d)).ok X.K (hid (dom ((D, kdP X.prog X.w D ks) :: ω4)) H6) (kdO X.prog X.w D (storedH ents (.tup kk) ka u5)) := ⟨_, rfl, m2.put rk hdp ru o6, m3⟩
        have oo := s6.own.put (i := 0) (p := D) (P := kdP X.prog X.w D ks) rfl ho
        have kk2 := k6.trans (kp_upd (H := H6) (o := kdO X.prog X.w D (storedH ents (.tup kk) ka u5)) (List.mem_cons_self (a := D) (l := dom ω4)))
        exact ⟨ω4, _, hJ', ⟨s2.env.mono (k4.trans kk2), oo⟩, k2.trans (k4.trans kk2)⟩
      · rintro H' ⟨ω2, ks, hJ, s2, k2⟩
        rw [hr.len] at hJ
        exact q _ _ _ H' (je ω2 ks D hJ) s2 (k1.trans k2) rfl
end
end DL

namespace DL
open PySem PySem.Spec L2
/-! ## a def under another name of the top -/
structure HasA (K : PySem.W.Frag) (mg : Str → Option Value) (g name : Str) (st : Stmt) (ps : List Str) : Prop where
  ex : ∃ f fd, Fun K name name st f fd ∧ mg g = some (.ref f) ∧ Binds K fd ps []
section
variable {P : Program} {w : World} {K : PySem.W.Frag} {mg : Str → Option Value} {base : Heap} {g name : Str} {st : Stmt} {Nm ps : List Str} {k : Nat} {C : Con}
theorem hasA_mk {h : Heap} {f : Addr} {od an : Option Addr} {sl : Array (Option Value)} {oc kV doc pm cd ct : Value} (X : K.In h) (G : h.Ns mainGlobals mg) (a : PySem.W.nsIn K mainGlobals g = some (some (.ref f)))
    (l : K.lookup f = some ⟨oc, od, .func (PySem.W.fnOf name name (defArgs st) (defBody st) (defScope st) .none kV doc pm an cd ct), sl⟩) (c : PySem.W.codeIn K cd name = true) (kp : PySem.W.keepIn K (.ref f) = true)
    (b : ∀ (kV doc pm : Value) (an : Option Addr) (cdv ct : Value) (us : List Value), us.length = ps.length → bindArgs (PySem.W.fnOf name name (defArgs st) (defBody st) (defScope st) .none kV doc pm an cdv ct) ⟨us, []⟩ = pure (ps.zip us)) : HasA K mg g name st ps :=
  ⟨f, _, fun_mk (st := st) l c kp, PySem.W.mg_of X G a, (fun_mk (st := st) l c kp).binds b⟩
theorem rdyA (F : HasA K mg g name st ps) (sc : FnScope Nm ps (defScope st)) (len : ∀ cs ω Φ, C cs ω Φ → cs.length = ps.length)
    (body : ∀ (X : Cx) (f : Addr) (cdv : Value) (A : Around) (outer : List PySem.Env) (s : Shared) (H : Hp) (E : XK), X = (cxOf CX0 P w K mg base Nm name (defScope st) f cdv A outer s H E).nox → Room k X.A → ∀ cs ω Φ, C cs ω Φ → B X ω (startE Nm cs) (defBody st) { nx := fun ω' _ => Φ ω' (.dat .none), rt := Φ }) :
    Rdy P w K mg base (k + 1) g ps C := by
  obtain ⟨f, fd, F, hm, hb⟩ := F.ex
  exact ⟨f, fd, okD F sc len fun X => body X f, hm, F.kp, hb⟩
end
/-- no list is an instance of an own class -/
theorem noList_mk {K : PySem.W.Frag} {mg : Str → Option Value} {x : Str} {C : Addr} {h : Heap} (X : K.In h) (G : h.Ns mainGlobals mg) (a : PySem.W.nsIn K mainGlobals x = some (some (.ref C))) (ob : PySem.W.mroIn K C (.type "object") = some true) (tt : PySem.W.typeIn K (.ref C) = some (.type "type")) : PySem.W.kitOne K (.type "list") (.ref (clsA mg x)) = some false := by
  rw [clsA_of (PySem.W.mg_of X G a)]
  have c : (PySem.W.clsIn K C).isSome = true := by
    unfold PySem.W.mroIn at ob
    cases e : PySem.W.clsIn K C with
    | none => rw [e] at ob; cases ob
    | some _ => rfl
  unfold PySem.W.kitOne PySem.W.kitCls
  rw [if_neg (by simp)]
  show (if ((PySem.W.clsIn K C).isSome && PySem.W.typeIn K (.ref C) == some (.type "type")) = true then _ else _) = _
  rw [if_pos (by rw [c, tt]; decide)]
  have e : PySem.fastBuiltinMro "list" = some [.type "list", .type "object"] := by rfl
  show ((PySem.fastBuiltinMro "list").map fun x => x.contains (.ref C)) = _
  rw [e]
  rfl
section
variable {X : Cx} {ω : Ow} {δ : Env} {a b e : Expr} {es : List Expr} {Φ : Ow → Cell → Prop} {pos p1 p2 p3 p4 : Pos} {E : En}
theorem n_isCL {y : Str} (me : PySem.W.kitOne X.K (.type "list") (.ref (clsA X.mg y)) = some false) (hat : X.mg y = some (.ref (clsA X.mg y))) (hm : X.mg "isinstance" = none) (h : N X ω δ a fun ω1 c => ∃ ds, c = .dat (.list ds) ∧ Φ ω1 (.dat (.bool false))) (hg : Gl X "isinstance" := by rfl) (hgy : Gl X y := by rfl) (hdb : (y == ("__debug__" : Str)) = false := by decide)
    (he : starEach [a, .Name y p2] X.env = (false, eval a X.env) :: starEach [.Name y p2] X.env := by rfl) (he2 : starEach [.Name y p2] X.env = (false, eval (.Name y p2) X.env) :: starEach [] X.env := by rfl) (hpl : (backTo pos (starEach [.Name y p2] X.env)).any (·.1) = false := by rfl) : N X ω δ (.Call (.Name "isinstance" p1) [a, .Name y p2] [] pos) Φ :=
  n_lift (pe_callB call_isi hg hm (by decide +kernel) (pa_cons (WE.pe X a) (pa_cons (pe_glob (v := .ref (clsA X.mg y)) hgy hat rfl hdb) pa_nil he2) he) (by decide) (by decide) he hpl) fun σ H Q s q => h σ H _ s fun ω1 c v H1 ⟨ds, ec, f1⟩ s1 k1 o1 => by
    subst ec
    cases o1 with
    | lst hl hr => exact ⟨_, _, _, _, _, rfl, .own _, .base (.lst (hid_some hl).2), me, q ω1 _ _ H1 f1 s1 k1 (Rp.bl _)⟩
/-! ## x or y by truth: a number or None -/
def truI : PyData → Bool
  | .int i => decide (i ≠ 0)
  | _ => false
theorem n_orI (h : N X ω δ a fun ω1 c => (∃ i : Int, c = .dat (.int i) ∧ if i = 0 then N X ω1 δ (.BoolOp .Or (b :: es) pos) Φ else Φ ω1 (.dat (.int i))) ∨ c = .dat .none ∧ N X ω1 δ (.BoolOp .Or (b :: es) pos) Φ) : N X ω δ (.BoolOp .Or (a :: b :: es) pos) Φ :=
  n_lift (pe_orT (WE.pe X a) (WE.pe X _)) fun σ H Q s q => h σ H _ s fun ω1 c v H1 f1 s1 k1 o1 => by
    rcases f1 with ⟨i, rfl, f1⟩ | ⟨rfl, f1⟩
    · cases int_of o1
      by_cases hi : i = 0
      · subst hi
        rw [if_pos rfl] at f1
        exact ⟨false, rfl, f1 σ H1 Q s1 fun ω2 c v H2 f2 s2 k2 o2 => q ω2 c v H2 f2 s2 (k1.trans k2) o2⟩
      · rw [if_neg hi] at f1
        exact ⟨true, (bne_iff_ne.mpr hi).symm, q ω1 _ _ H1 f1 s1 k1 (Rp.int _)⟩
    · cases non_of o1
      exact ⟨false, rfl, f1 σ H1 Q s1 fun ω2 c v H2 f2 s2 k2 o2 => q ω2 c v H2 f2 s2 (k1.trans k2) o2⟩
theorem nt_truT {Ψ : Ow → Bool → Prop} (h : N X ω δ a fun ω1 c => ∃ ds, c = .dat (.tuple ds) ∧ Ψ ω1 (!ds.isEmpty)) (he : ∀ whole, isTrue a X.env whole = (do let v ← whole; standAt a.pos; holding [v] (truthy v)) := by intro _; rfl) : NT X ω δ a Ψ := fun σ H Q s q =>
  WT.of (pt_truth (WE.pe X a) he) (h σ H _ s fun ω1 c v H1 ⟨ds, e1, f⟩ s1 k1 o1 => by
    subst e1
    cases o1 with
    | tup hl r =>
      refine ⟨_, .inr (.inl ⟨_, sqt_hid hl, rfl⟩), q ω1 _ H1 ?_ s1 k1⟩
      have e : ∀ {vs : List V}, RpA X.K (hid (dom ω1) H1) vs ds → vs.isEmpty = ds.isEmpty := fun r => by cases r <;> rfl
      rw [e r]
      exact f)
theorem op2_notInD {c1 c2 : Cell} (h : ∃ d ds, c1 = .dat d ∧ c2 = .dat (.list ds) ∧ SeqAt.shaped d = true ∧ SeqAt.shaped (.list ds) = true ∧ Φ ω (.dat (.bool (!ds.any fun z => PyData.eqv z d)))) : Op2 X (rNotInD X.K) ω δ c1 c2 Φ := fun x y σ H Q s o1 o2 q => by
  obtain ⟨d1, d2, e1, e2, h1, h2, f⟩ := h
  subst e1; subst e2
  exact ⟨d1, d2, dp_of (SeqAt.canLay_of_shaped h1) (Rp.mono hid_same o1), dp_of (SeqAt.canLay_of_shaped h2) (Rp.mono hid_same o2), h1, h2, q ω _ _ H f s (Kp.refl _ _) (Rp.bl _)⟩
/-- x not in an owned list of data without dicts -/
theorem op2_notInO {p : Addr} {n : Nat} {c1 c2 : Cell} (h : ∃ d ds, ω[n]? = some (p, lstP ds) ∧ c1 = .dat d ∧ c2 = .raw (.ref p) ∧ SeqAt.shaped d = true ∧ SeqAt.shaped (.list ds) = true ∧ Φ ω (.dat (.bool (!ds.any fun z => PyData.eqv z d)))) : Op2 X (rNotInD X.K) ω δ c1 c2 Φ := fun x y σ H Q s o1 o2 q => by
  obtain ⟨d1, ds, hw, e1, e2, h1, h2, f⟩ := h
  subst e1; subst e2
  obtain rfl : y = V.ref p := o2
  exact ⟨d1, ds, dp_of (SeqAt.canLay_of_shaped h1) (Rp.mono hid_same o1), dp_of (SeqAt.canLay_of_shaped h2) (peek s.own hw), h1, h2, q ω _ _ H f s (Kp.refl _ _) (Rp.bl _)⟩
theorem nt_notInO {Ψ : Ow → Bool → Prop} (n : Nat) (hu : X.A.units + 65 < cLine) (hm : behindInMarks .NotIn b = false) (h : N X ω δ a fun ω1 c1 => N X ω1 δ b fun ω2 c2 => ∃ p d ds, ω2[n]? = some (p, lstP ds) ∧ c1 = .dat d ∧ c2 = .raw (.ref p) ∧ SeqAt.shaped d = true ∧ SeqAt.shaped (.list ds) = true ∧ Ψ ω2 (!ds.any fun z => PyData.eqv z d)) : NT X ω δ (.Compare a [.NotIn] [b] pos) Ψ :=
  nt_cop (op_notInD hu) hm (h.imp fun _ _ h1 => h1.imp fun _ _ ⟨p, d, ds, hw, e1, e2, h2, h3, f⟩ => op2_notInO ⟨d, ds, hw, e1, e2, h2, h3, isB.mk f⟩)
/-- a, b, c, d = a tuple of four -/
theorem s_unp4 (i j l m : Nat) {x y z u : Str} {px py pz pu pt : Pos} {kt : Nat} (hc : X.calm = true) (hN : X.N.Nodup) (h : N X ω δ e fun ω1 c => ∃ d1 d2 d3 d4, c = .dat (.tuple [d1, d2, d3, d4]) ∧ E.nx ω1 ((((δ.set i (some (.dat d1))).set j (some (.dat d2))).set l (some (.dat d3))).set m (some (.dat d4))))
    (hi : X.N[i]? = some x := by rfl) (hj : X.N[j]? = some y := by rfl) (hl : X.N[l]? = some z := by rfl) (hm : X.N[m]? = some u := by rfl) (hx : Loc X.env.scope x := by first | exact Or.inl rfl | exact Or.inr rfl) (hy : Loc X.env.scope y := by first | exact Or.inl rfl | exact Or.inr rfl) (hz : Loc X.env.scope z := by first | exact Or.inl rfl | exact Or.inr rfl) (hw0 : Loc X.env.scope u := by first | exact Or.inl rfl | exact Or.inr rfl)
    (hf : X.fn x = true ∨ X.env.scope.names.lookup x = some .local := by first | exact .inl rfl | exact .inr rfl | assumption) (hg : X.fn y = true ∨ X.env.scope.names.lookup y = some .local := by first | exact .inl rfl | exact .inr rfl | assumption) (hk : X.fn z = true ∨ X.env.scope.names.lookup z = some .local := by first | exact .inl rfl | exact .inr rfl | assumption) (hk2 : X.fn u = true ∨ X.env.scope.names.lookup u = some .local := by first | exact .inl rfl | exact .inr rfl | assumption)
    (hs : swapsWithSole [.Tuple [.Name x px, .Name y py, .Name z pz, .Name u pu] kt pt] e pos.line X.env = pure false := by rfl) (hw : swappedStores [.Tuple [.Name x px, .Name y py, .Name z pz, .Name u pu] kt pt] e X.env = pure none := by rfl)
    (h1 : (assignEach [.Tuple [.Name x px, .Name y py, .Name z pz, .Name u pu] kt pt] X.env).map (·.2) = [assign (.Tuple [.Name x px, .Name y py, .Name z pz, .Name u pu] kt pt) X.env] := by rfl)
    (h2 : (assignEach [.Name x px, .Name y py, .Name z pz, .Name u pu] X.env).map (·.2) = assign (.Name x px) X.env :: (assignEach [.Name y py, .Name z pz, .Name u pu] X.env).map (·.2) := by rfl) (h3 : (assignEach [.Name y py, .Name z pz, .Name u pu] X.env).map (·.2) = assign (.Name y py) X.env :: (assignEach [.Name z pz, .Name u pu] X.env).map (·.2) := by rfl)
    (h3b : (assignEach [.Name z pz, .Name u pu] X.env).map (·.2) = assign (.Name z pz) X.env :: (assignEach [.Name u pu] X.env).map (·.2) := by rfl) (h3c : (assignEach [.Name u pu] X.env).map (·.2) = assign (.Name u pu) X.env :: (assignEach [] X.env).map (·.2) := by rfl)
    (h4 : (assignEach [.Name x px, .Name y py, .Name z pz, .Name u pu] X.env).length = 4 := by rfl) (h5 : (assignEach [.Name x px, .Name y py, .Name z pz, .Name u pu] X.env).findIdx? (·.1) = none := by rfl) : S X ω δ (.Assign [.Tuple [.Name x px, .Name y py, .Name z pz, .Name u pu] kt pt] e pos) E := fun σ H D s f =>
  WS.of (ps_asg (WE.pe X e) (pg_tup hc (pgs_cons (pg_name hN hi hx hf) (pgs_cons (pg_name hN hj hy hg) (pgs_cons (pg_name hN hl hz hk) (pgs_cons (pg_name hN hm hw0 hk2) pgs_nil h3c) h3b) h3) h2) h4 h5) hs hw h1) (h σ H _ s fun ω1 c v H1 ⟨d1, d2, d3, d4, e1, q⟩ s1 k1 o1 => by
    subst e1
    cases o1 with
    | tup sq ra =>
    cases ra with
    | cons r1 ra =>
    cases ra with
    | cons r2 ra =>
    cases ra with
    | cons r3 ra =>
    cases ra with
    | cons r4 ra =>
    cases ra
    have sq' := sqt_hid sq
    exact ⟨_, _, rfl, sq', rfl, _, _, rfl, _, _, rfl, _, _, rfl, _, _, rfl, rfl, f.nx ω1 _ _ H1 q ((((s1.store i (c := .dat d1) r1).store j (c := .dat d2) r2).store l (c := .dat d3) r3).store m (c := .dat d4) r4) k1⟩)
/-- sorted(a list of alike data) -/
def rSortD (K : PySem.W.Frag) : List V → Hp → VK → Prop := fun vs H Q => ∃ (ω : Ow) (l : Addr) (ds : List PyData), vs = [V.ref l] ∧ OwnOk K ω H ∧ Rp K (hid (dom ω) H) (.ref l) (.list ds) ∧ KeysOk id ds ∧ ∀ v H', OwnOk K ω H' → Kp (dom ω) H (dom ω) H' → Rp K (hid (dom ω) H') v (.list (srtD id ds)) → Q v H'
theorem cr_sortD (hsm : ∃ m, X.base.Ns sysModules m) (hu : X.A.units + 64 < cLine) : CallR X (.builtin "sorted") (rSortD X.K) := by
  intro pins s σ H vs us Q I r h
  obtain ⟨ω, l, ds, rfl, own, rp, ko, q⟩ := h
  obtain rfl := Vals.ref1 r
  cases rp with
  | @lst _ xs _ hl hra =>
  obtain ⟨its, rv, pl, hz⟩ := I.list (SqL.of (hid_some hl).2)
  have hlen : its.length = ds.length := by rw [← rv.length, hra.len]
  have hids : ds.map id = ds := List.map_id ds
  have reads := reads_of I hsm rv hra fun d hd => (ko.ok d hd).1
  refine PySem.W.sorted_data (enc := id) (R := fun (u : Value) (d : PyData) => ∃ v, RelV v u ∧ Rp X.K (hid (dom ω) H) v d) pl.isList (each_mk rv hra) reads ko.al ko.so (by rw [← hra.len]; exact hz) (fun d hd => ?_) fun out ho e => ?_
  · have := (ko.ok d hd).2
    show X.A.units + 2 + d.depth < cLine
    have h20 : d.depth ≤ 20 := this
    omega
  obtain ⟨zs, z1, z2⟩ := each_back e
  have hH : H (s.heap.objs.size + 1) = none := I.hok.fresh (Nat.le_succ _)
  obtain ⟨ep, he'⟩ := PyProof.Rows.sortedAll_at s.heap its out.toArray
  have zl : zs.length ≤ sizeLine := by
    rw [z2.len, List.length_mergeSort, ← hra.len]
    exact hz
  refine ⟨.ref _, upd H (s.heap.objs.size + 1) (.lst zs), I.laid (t' := s.toks) (fun _ _ => PyProof.Rows.sortedAll_old) (Nat.le_succ _) ⟨zl, _, ep, z1, he'⟩, rfl, q _ _ (own.new hH) (kp_new own hH) (new_lst own hH z2)⟩
theorem n_sortD (hsm : ∃ m, X.base.Ns sysModules m) (hu : X.A.units + 64 < cLine) (hm : X.mg "sorted" = none) (h : N X ω δ a fun ω1 c => ∃ ds, c = .dat (.list ds) ∧ KeysOk id ds ∧ Φ ω1 (.dat (.list (srtD id ds)))) (hg : Gl X "sorted" := by rfl) (he : starEach [a] X.env = (false, eval a X.env) :: starEach [] X.env := by rfl) : N X ω δ (.Call (.Name "sorted" p1) [a] [] pos) Φ :=
  n_callB (cr_sortD hsm hu) hm (na_cons (h.imp fun ω1 c ⟨ds, e1, ko, f⟩ => na_nil fun vs σ H Q s o q => by
    subst e1
    obtain ⟨v, rfl, ov⟩ := cells1 o
    cases ov with
    | @lst l xs _ hl hra => exact ⟨ω1, l, ds, rfl, s.own, .lst hl hra, ko, fun v H' o kp r => q ω1 _ v H' f ⟨s.env.mono kp, o⟩ kp r⟩) he) hg (he := he)
end
end DL

namespace DL
open PySem PySem.Spec L2
section
variable {X : Cx} {ω : Ow} {δ : Env} {a elt : Expr} {Φ : Ow → Cell → Prop} {pos p1 p2 p3 : Pos} {x : Str} {scope : Scope}
/-- [y for x in range(n) for y in a list] -/
theorem t_lcRL (j j1 : Nat) {iter1 : Expr} (hjj : j ≠ j1) (hlen : j1 < δ.length)
    (h : N X ω δ a fun ω1 c => ∃ n : Int, c = .dat (.int n) ∧ -1000000 ≤ n ∧ n ≤ 1000000 ∧ ∃ J : Nat → Ow → List PyData → Prop, J 0 ω1 [] ∧
      (∀ i ω2 acc D, i < n.toNat → J i ω2 acc → BlkF X scope fun Y => N Y ((D, lstP acc) :: ω2) (((δ.set j1 none).set j none).set j (some (.dat (.int (i : Int))))) iter1 fun ω3 c => ∃ fs ω4, c = .dat (.list fs) ∧ ω3 = (D, lstP acc) :: ω4 ∧ acc.length + fs.length ≤ 100000 ∧ J (i + 1) ω4 (acc ++ fs)) ∧
      ∀ ω2 acc, J n.toNat ω2 acc → Φ ω2 (.dat (.list acc)))
    (hel : BlkF X scope fun Y => ∀ ω' δ' c, δ'[j1]? = some (some c) → N Y ω' δ' elt fun ω3 c3 => ω3 = ω' ∧ c3 = c)
    {σ : St} {H : Hp} {Q : VK} (s : StOk X.K ω δ σ H) (q : ∀ ω' c v H', Φ ω' c → StOk X.K ω' δ σ H' → Kp (dom ω) H (dom ω') H' → CellOk X.K (dom ω') H' v c → Q v H') :
    tLc2 (iRng1 (tCons (WE X a) tNil)) (gName j) tYes (fun σ H R => BlkF X scope fun Y => iList X.K (WE Y iter1) σ H R) (gName j1) tYes (fun σ H Q => BlkF X scope fun Y => WE Y elt σ H Q) [j, j1] [j1] σ H Q :=
  h σ H _ s fun ω1 c v H1 ⟨n, e1, z1, z2, J, j0, jt, je⟩ s1 k1 o1 => by
    subst e1
    cases int_of o1
    refine ⟨n, rfl, by omega, by omega, fun D hD => ?_⟩
    have hD0 : (lstP []).ok X.K (hid (dom ω1) H1) (.lst []) := ⟨[], rfl, .nil⟩
    refine ⟨fun i m H' => m = n.toNat - i ∧ i ≤ n.toNat ∧ ∃ ω2 acc, J i ω2 acc ∧ StOk X.K ((D, lstP acc) :: ω2) δ σ H' ∧ Kp (dom ω1) H1 (D :: dom ω2) H', ⟨n.toNat, by simp, Nat.zero_le _, ω1, [], j0, s1.cons hD hD0, (s1.own.cons hD hD0).2⟩, ?_⟩
    rintro i m H' ⟨rfl, hi, ω2, acc, hJ, s2, k2⟩
    by_cases hlt : i < n.toNat
    rotate_left
    · have e : i = n.toNat := by omega
      subst e
      exact .inl ⟨Nat.le_refl _, q ω2 _ _ H' (je ω2 acc hJ) s2.drop (k1.trans (k2.trans (kp_drop (P := lstP acc)))) (own_lst s2.own)⟩
    refine .inr ⟨hlt, fun H' => ∃ ω2 acc, J (i + 1) ω2 acc ∧ StOk X.K ((D, lstP acc) :: ω2) δ σ H' ∧ Kp (dom ω1) H1 (D :: dom ω2) H', fun H3 g => ⟨n.toNat - (i + 1), by omega, rfl, hlt, g⟩, fun y H3 yl => ?_⟩
    obtain ⟨rfl, rfl⟩ := yl
    refine ⟨wipe2 hjj, ?_⟩
    unfold tYes
    simp only [↓reduceIte]
    intro s3 H9 C cl fp
    have sB : StOk X.K ((D, lstP acc) :: ω2) (((δ.set j1 none).set j none).set j (some (.dat (.int (i : Int))))) ((wipe σ [j, j1]).set j (some (.int (0 + (i : Int))))) H3 := by
      rw [Int.zero_add]
      exact ⟨((s2.env.wipe j1).wipe j).set (c := .dat (.int i)) (Rp.int _) j, s2.own⟩
    refine jt i ω2 acc D hlt hJ s3 H9 C cl fp _ _ _ sB fun ω3 c v H4 ⟨fs, ω4, e1, e2, hz, hJ'⟩ s4 k4 o4 => ?_
    subst e1; subst e2
    cases o4 with
    | @lst l2 ys _ hl2 hr2 =>
      refine ⟨l2, rfl, ⟨ys, SqL.of (hid_some hl2).2⟩, ?_⟩
      refine ⟨fun i2 m2 H5 => m2 = ys.length - i2 ∧ i2 ≤ ys.length ∧ StOk X.K ((D, lstP (acc ++ fs.take i2)) :: ω4) (((δ.set j1 none).set j none).set j (some (.dat (.int (i : Int))))) ((wipe σ [j, j1]).set j (some (.int (0 + (i : Int))))) H5 ∧ Kp (D :: dom ω4) H4 (D :: dom ω4) H5, ⟨ys.length, by simp, Nat.zero_le _, by simpa using s4, Kp.refl _ _⟩, ?_⟩
      rintro i2 m2 H5 ⟨rfl, hi2, s5, k5⟩
      have hsq2 : SqL X.K H5 l2 ys := SqL.of (hid_some (k5 _ _ hl2)).2
      by_cases hlt2 : i2 < ys.length
      rotate_left
      · have e : i2 = ys.length := by omega
        subst e
        refine .inl ⟨⟨ys, hsq2, Nat.le_refl _⟩, ω4, acc ++ fs, hJ', ?_, (k2.trans k4).trans k5⟩
        have own5 := s5.own
        rw [hr2.len, List.take_length] at own5
        exact ⟨s2.env.mono (k4.trans k5), own5⟩
      refine .inr ⟨⟨ys, ys[i2], hsq2, by simp [hlt2]⟩, fun H5 => StOk X.K ((D, lstP (acc ++ fs.take (i2 + 1))) :: ω4) (((δ.set j1 none).set j none).set j (some (.dat (.int (i : Int))))) ((wipe σ [j, j1]).set j (some (.int (0 + (i : Int))))) H5 ∧ Kp (D :: dom ω4) H4 (D :: dom ω4) H5, fun H6 g => ⟨ys.length - (i2 + 1), by omega, rfl, hlt2, g⟩, fun y2 H6 yl2 => ?_⟩
      obtain ⟨rfl, yl2⟩ := yl2
      have hy2 := yl2 ys hsq2
      obtain ⟨e0, he0, re0⟩ := hr2.get' hy2
      refine ⟨set_wipe, ?_⟩
      simp only [↓reduceIte]
      intro s7 H7 C7 cl7 fp7
      have sC : StOk X.K ((D, lstP (acc ++ fs.take i2)) :: ω4) (((((δ.set j1 none).set j none).set j (some (.dat (.int (i : Int))))).set j1 none).set j1 (some (.dat e0))) ((((wipe σ [j, j1]).set j (some (.int (0 + (i : Int))))).set j1 none).set j1 (some y2)) H6 := ⟨(s5.env.wipe j1).set (c := .dat e0) (re0.mono k5) j1, s5.own⟩
      refine hel s7 H7 C7 cl7 fp7 _ _ (.dat e0) (by rw [List.getElem?_set_self (by simpa using hlen)]) _ _ _ sC fun ω8 c8 v8 H8 ⟨e1, e2⟩ s8 k8 o8 => ?_
      subst e1; subst e2
      obtain ⟨u, m1, vs, rfl, m2⟩ := s8.own.at_ D _ List.mem_cons_self
      have et : acc ++ fs.take (i2 + 1) = (acc ++ fs.take i2) ++ [e0] := by
        rw [List.take_add_one, he0]; simp
      have ho : (lstP (acc ++ fs.take (i2 + 1))).ok X.K (hid (dom ((D, lstP (acc ++ fs.take i2)) :: ω4)) H8) (.lst (vs ++ [v8])) := by
        rw [et]
        exact ⟨_, rfl, m2.append (.cons o8 .nil)⟩
      have oo := s8.own.put (i := 0) (p := D) (P := lstP (acc ++ fs.take i2)) rfl ho
      have kk : Kp (D :: dom ω4) H6 (D :: dom ω4) (upd H8 D (.lst (vs ++ [v8]))) := Kp.trans k8 (kp_upd List.mem_cons_self)
      refine ⟨vs, m1, ?_, ⟨s5.env.mono kk, oo⟩, k5.trans kk⟩
      rw [m2.len, List.length_append, List.length_take]
      exact Nat.lt_of_le_of_lt (m := 100000) (by omega) (by decide)
theorem n_lcRL (j j1 : Nat) {iter1 : Expr} {x1 : Str} {q1 : Pos} (hjj : j ≠ j1) (hlen : j1 < δ.length) (hc : X.calm = true) (hn : X.N.Nodup) (hm : X.mg "range" = none) (hb : BlkOk X.N X.env.scope scope [(x, j), (x1, j1)])
    (h : N X ω δ a fun ω1 c => ∃ n : Int, c = .dat (.int n) ∧ -1000000 ≤ n ∧ n ≤ 1000000 ∧ ∃ J : Nat → Ow → List PyData → Prop, J 0 ω1 [] ∧
      (∀ i ω2 acc D, i < n.toNat → J i ω2 acc → BlkF X scope fun Y => N Y ((D, lstP acc) :: ω2) (((δ.set j1 none).set j none).set j (some (.dat (.int (i : Int))))) iter1 fun ω3 c => ∃ fs ω4, c = .dat (.list fs) ∧ ω3 = (D, lstP acc) :: ω4 ∧ acc.length + fs.length ≤ 100000 ∧ J (i + 1) ω4 (acc ++ fs)) ∧
      ∀ ω2 acc, J n.toNat ω2 acc → Φ ω2 (.dat (.list acc)))
    (hel : BlkF X scope fun Y => ∀ ω' δ' c, δ'[j1]? = some (some c) → N Y ω' δ' elt fun ω3 c3 => ω3 = ω' ∧ c3 = c)
    (hgt : BlkF X scope fun Y => PG Y (.Name x p1) (gName j)) (hgt1 : BlkF X scope fun Y => PG Y (.Name x1 q1) (gName j1))
    (hgl : Gl X "range" := by rfl) (ha : starEach [a] X.env = [(false, eval a X.env)] := by rfl) (hs : ∀ y, foldedSetIterable (.Call (.Name "range" p2) [a] [] p3) X.env y = pure y := by intro _; rfl) (hs1 : ∀ env y, foldedSetIterable iter1 env y = pure y := by intro _ _; rfl) :
    N X ω δ (.ListComp elt [{ target := .Name x p1, iter := .Call (.Name "range" p2) [a] [] p3, ifs := [], is_async := 0 }, { target := .Name x1 q1, iter := iter1, ifs := [], is_async := 0 }] scope pos) Φ :=
  n_lift (pe_lc2 (own := [(x, j), (x1, j1)]) (vs1 := [j1]) (g := gName j) (g1 := gName j1) (tt := tYes) (tt1 := tYes) (wi1 := fun σ H R => BlkF X scope fun Y => iList X.K (WE Y iter1) σ H R) (te := fun σ H Q => BlkF X scope fun Y => WE Y elt σ H Q) hc hn (pi_range1 hgl hm (pa_cons (WE.pe X a) pa_nil ha) ha) hb (by simp) hgt (fun _ _ _ _ _ => pts_nil)
    (fun s H C cl fp => ⟨fun pins s' σ' H' R I q => (pi_list (WE.pe _ iter1)).run pins s' σ' H' R I (q s H C cl fp)⟩) hgt1 (fun _ _ _ _ _ => pts_nil) (fun s H C cl fp => ⟨fun pins s' σ' H' Q I q => q s H C cl fp pins s' I⟩) hs hs1) fun σ H Q s q => t_lcRL j j1 hjj hlen h hel s q
theorem s_lcRL (i j j1 : Nat) {iter1 : Expr} {x1 y : Str} {q1 py spos : Pos} {E : En} (hjj : j ≠ j1) (hlen : j1 < δ.length) (hc : X.calm = true) (hn : X.N.Nodup) (hm : X.mg "range" = none) (hb : BlkOk X.N X.env.scope scope [(x, j), (x1, j1)])
    (h : N X ω δ a fun ω1 c => ∃ n : Int, c = .dat (.int n) ∧ -1000000 ≤ n ∧ n ≤ 1000000 ∧ ∃ J : Nat → Ow → List PyData → Prop, J 0 ω1 [] ∧
      (∀ i ω2 acc D, i < n.toNat → J i ω2 acc → BlkF X scope fun Y => N Y ((D, lstP acc) :: ω2) (((δ.set j1 none).set j none).set j (some (.dat (.int (i : Int))))) iter1 fun ω3 c => ∃ fs ω4, c = .dat (.list fs) ∧ ω3 = (D, lstP acc) :: ω4 ∧ acc.length + fs.length ≤ 100000 ∧ J (i + 1) ω4 (acc ++ fs)) ∧
      ∀ ω2 acc, J n.toNat ω2 acc → E.nx ω2 (δ.set i (some (.dat (.list acc)))))
    (hel : BlkF X scope fun Y => ∀ ω' δ' c, δ'[j1]? = some (some c) → N Y ω' δ' elt fun ω3 c3 => ω3 = ω' ∧ c3 = c)
    (hgt : BlkF X scope fun Y => PG Y (.Name x p1) (gName j)) (hgt1 : BlkF X scope fun Y => PG Y (.Name x1 q1) (gName j1))
    (hgl : Gl X "range" := by rfl) (ha : starEach [a] X.env = [(false, eval a X.env)] := by rfl) (hs : ∀ y, foldedSetIterable (.Call (.Name "range" p2) [a] [] p3) X.env y = pure y := by intro _; rfl) (hs1 : ∀ env y, foldedSetIterable iter1 env y = pure y := by intro _ _; rfl)
    (hyN : X.N[i]? = some y := by rfl) (hyl : X.env.scope.names.lookup y = some .local := by rfl) (hkd : X.env.scope.kind = .function := by rfl) (hpl : (py.line == pos.line) = true := by rfl) (hfr : (scope.names.any fun (n, k) => n == y && (k == .local || k == .cell)) = false := by decide +kernel) :
    S X ω δ (.Assign [.Name y py] (.ListComp elt [{ target := .Name x p1, iter := .Call (.Name "range" p2) [a] [] p3, ifs := [], is_async := 0 }, { target := .Name x1 q1, iter := iter1, ifs := [], is_async := 0 }] scope pos) spos) E := fun σ H D s f =>
  WS.of (ps_setLc2 (i := i) (own := [(x, j), (x1, j1)]) (vs1 := [j1]) (g := gName j) (g1 := gName j1) (tt := tYes) (tt1 := tYes) (wi1 := fun σ H R => BlkF X scope fun Y => iList X.K (WE Y iter1) σ H R) (te := fun σ H Q => BlkF X scope fun Y => WE Y elt σ H Q) hc hn hyN hyl (sw_true hkd hyl hpl hfr) (pi_range1 hgl hm (pa_cons (WE.pe X a) pa_nil ha) ha) hb (by simp) hgt (fun _ _ _ _ _ => pts_nil)
    (fun s H C cl fp => ⟨fun pins s' σ' H' R I q => (pi_list (WE.pe _ iter1)).run pins s' σ' H' R I (q s H C cl fp)⟩) hgt1 (fun _ _ _ _ _ => pts_nil) (fun s H C cl fp => ⟨fun pins s' σ' H' Q I q => q s H C cl fp pins s' I⟩) hs hs1)
    (t_lcRL (Φ := fun ω1 c => E.nx ω1 (δ.set i (some c))) j j1 hjj hlen h hel s fun ω1 c v H1 q s1 k1 o1 => f.nx ω1 _ _ H1 q (s1.store i o1) k1)
end
section
variable {X : Cx} {ω : Ow} {δ : Env} {elt iter : Expr} {Φ : Ow → Cell → Prop} {pos p1 p2 p3 p4 : Pos} {x y z : Str} {scope : Scope} {kk : Nat}
theorem wipe6 {σ : L2.St} {j l m : Nat} {v u t : Option V} (h : j ≠ l) (h2 : j ≠ m) (h3 : l ≠ m) : wipe ((((wipe σ [j, l, m]).set j v).set l u).set m t) [j, l, m] = wipe σ [j, l, m] := by
  show ((((((((σ.set m none).set l none).set j none).set j v).set l u).set m t).set m none).set l none).set j none = ((σ.set m none).set l none).set j none
  apply List.ext_getElem?
  intro i
  simp only [List.getElem?_set, List.length_set]
  by_cases e1 : j = i <;> by_cases e2 : l = i <;> by_cases e3 : m = i <;> simp_all
/-- [elt for x, y, z in a list of triples] -/
theorem t_lcL3 (j l m : Nat) (hjl : j ≠ l) (hjm : j ≠ m) (hlm : l ≠ m)
    (h : N X ω δ iter fun ω1 c => ∃ ds, c = .dat (.list ds) ∧ (∀ d ∈ ds, ∃ d1 d2 d3, d = .tuple [d1, d2, d3]) ∧ ∃ J : Nat → Ow → List PyData → Prop, J 0 ω1 [] ∧
      (∀ i ω2 acc D d1 d2 d3, ds[i]? = some (.tuple [d1, d2, d3]) → J i ω2 acc → BlkF X scope fun Y => N Y ((D, lstP acc) :: ω2) ((((((δ.set m none).set l none).set j none).set j (some (.dat d1))).set l (some (.dat d2))).set m (some (.dat d3))) elt fun ω3 c => ∃ d, c = .dat d ∧ acc.length < 100000 ∧ ∃ ω4, ω3 = (D, lstP acc) :: ω4 ∧ J (i + 1) ω4 (acc ++ [d])) ∧
      ∀ ω2 acc, J ds.length ω2 acc → Φ ω2 (.dat (.list acc))) {σ : St} {H : Hp} {Q : VK} (s : StOk X.K ω δ σ H) (q : ∀ ω' c v H', Φ ω' c → StOk X.K ω' δ σ H' → Kp (dom ω) H (dom ω') H' → CellOk X.K (dom ω') H' v c → Q v H') :
    tLc (iList X.K (WE X iter)) (gTup X.K 3 (gCons (gName j) (gCons (gName l) (gCons (gName m) gNil)))) tYes (fun σ H Q => BlkF X scope fun Y => WE Y elt σ H Q) [j, l, m] σ H Q :=
  h σ H _ s fun ω1 c v H1 ⟨ds, e1, hpr, J, j0, jt, je⟩ s1 k1 o1 => by
    subst e1
    cases o1 with
    | @lst qa xs _ hl hr =>
      refine ⟨qa, rfl, ⟨xs, SqL.of (hid_some hl).2⟩, fun D hD => ?_⟩
      have hD0 : (lstP []).ok X.K (hid (dom ω1) H1) (.lst []) := ⟨[], rfl, .nil⟩
      refine lc_list (K := X.K) (a := qa) (xs := xs) (g := gTup X.K 3 (gCons (gName j) (gCons (gName l) (gCons (gName m) gNil)))) (tt := tYes) (te := fun σ H Q => BlkF X scope fun Y => WE Y elt σ H Q) (vs := [j, l, m]) (σ := σ) (H1 := H1) (D := D) (Qd := fun H => Q (.ref D) H) (fun i H' => ∃ ω2 acc, J i ω2 acc ∧ StOk X.K ((D, lstP acc) :: ω2) δ σ H' ∧ Kp (dom ω1) H1 (D :: dom ω2) H') ⟨ω1, [], j0, s1.cons hD hD0, (s1.own.cons hD hD0).2⟩ ?_ ?_ ?_
      · rintro i H' _ ⟨ω2, acc, _, _, k2⟩
        exact SqL.of (hid_some (k2 _ _ hl)).2
      · rintro i y H' hy ⟨ω2, acc, hJ, s2, k2⟩
        obtain ⟨d0, hd0, rd0⟩ := hr.get' hy
        obtain ⟨d1, d2, d3, rfl⟩ := hpr _ (List.mem_of_getElem? hd0)
        have rd1 := rd0.mono k2
        cases rd1 with
        | tup sq ra =>
        cases ra with
        | cons r1 ra =>
        cases ra with
        | cons r2 ra =>
        cases ra with
        | cons r3 ra =>
        cases ra
        have sq' := sqt_hid sq
        refine ⟨_, _, rfl, sq', rfl, _, _, rfl, _, _, rfl, _, _, rfl, rfl, wipe6 hjl hjm hlm, fun s3 H3 C cl fp => ?_⟩
        have sB : StOk X.K ((D, lstP acc) :: ω2) ((((((δ.set m none).set l none).set j none).set j (some (.dat d1))).set l (some (.dat d2))).set m (some (.dat d3))) ((((wipe σ [j, l, m]).set j (some _)).set l (some _)).set m (some _)) H' := ⟨(((((s2.env.wipe m).wipe l).wipe j).set (c := .dat d1) r1 j).set (c := .dat d2) r2 l).set (c := .dat d3) r3 m, s2.own⟩
        refine jt i ω2 acc D d1 d2 d3 hd0 hJ s3 H3 C cl fp _ _ _ sB fun ω3 c v H4 ⟨d, e1, hz, ω4, e2, hJ'⟩ s4 k4 o4 => ?_
        subst e1; subst e2
        obtain ⟨u, m1, vs, rfl, m2⟩ := s4.own.at_ D _ List.mem_cons_self
        have ho : (lstP (acc ++ [d])).ok X.K (hid (dom ((D, lstP acc) :: ω4)) H4) (.lst (vs ++ [v])) := ⟨_, rfl, m2.append (.cons o4 .nil)⟩
        refine ⟨vs, m1, by rw [m2.len]; exact Nat.lt_of_lt_of_le hz (by decide), ω4, _, hJ', ?_, (k2.trans k4).trans (kp_upd List.mem_cons_self)⟩
        have oo := s4.own.put (i := 0) (p := D) (P := lstP acc) rfl ho
        exact ⟨s2.env.mono (k4.trans (kp_upd List.mem_cons_self)), oo⟩
      · rintro H' ⟨ω2, acc, hJ, s2, k2⟩
        rw [hr.len] at hJ
        exact q ω2 _ _ H' (je ω2 acc hJ) s2.drop (k1.trans (k2.trans (kp_drop (P := lstP acc)))) (own_lst s2.own)
theorem n_lcL3 (j l m : Nat) (hjl : j ≠ l) (hjm : j ≠ m) (hlm : l ≠ m) (hc : X.calm = true) (hn : X.N.Nodup) (hb : BlkOk X.N X.env.scope scope [(x, j), (y, l), (z, m)])
    (h : N X ω δ iter fun ω1 c => ∃ ds, c = .dat (.list ds) ∧ (∀ d ∈ ds, ∃ d1 d2 d3, d = .tuple [d1, d2, d3]) ∧ ∃ J : Nat → Ow → List PyData → Prop, J 0 ω1 [] ∧
      (∀ i ω2 acc D d1 d2 d3, ds[i]? = some (.tuple [d1, d2, d3]) → J i ω2 acc → BlkF X scope fun Y => N Y ((D, lstP acc) :: ω2) ((((((δ.set m none).set l none).set j none).set j (some (.dat d1))).set l (some (.dat d2))).set m (some (.dat d3))) elt fun ω3 c => ∃ d, c = .dat d ∧ acc.length < 100000 ∧ ∃ ω4, ω3 = (D, lstP acc) :: ω4 ∧ J (i + 1) ω4 (acc ++ [d])) ∧
      ∀ ω2 acc, J ds.length ω2 acc → Φ ω2 (.dat (.list acc)))
    (hgt : BlkF X scope fun Y => PG Y (.Tuple [.Name x p1, .Name y p2, .Name z p4] kk p3) (gTup X.K 3 (gCons (gName j) (gCons (gName l) (gCons (gName m) gNil))))) (hs : ∀ y, foldedSetIterable iter X.env y = pure y := by intro _; rfl) : N X ω δ (.ListComp elt [{ target := .Tuple [.Name x p1, .Name y p2, .Name z p4] kk p3, iter := iter, ifs := [], is_async := 0 }] scope pos) Φ :=
  n_lift (pe_lc (own := [(x, j), (y, l), (z, m)]) (g := gTup X.K 3 (gCons (gName j) (gCons (gName l) (gCons (gName m) gNil)))) (te := fun σ H Q => BlkF X scope fun Y => WE Y elt σ H Q) hc hn (pi_list (WE.pe X iter)) hb hgt (fun _ _ _ _ _ => pts_nil) (fun s H C cl fp => ⟨fun pins s' σ' H' Q I q => q s H C cl fp pins s' I⟩) hs) fun σ H Q s q => t_lcL3 j l m hjl hjm hlm h s q
end
end DL

namespace DL
open PySem PySem.Spec L2 PyProof.Rows
/-! ## own operators: one | other, ~one, number in one -/
section
variable {X : Cx} {ω : Ow} {δ : Env} {a b e : Expr} {Φ : Ow → Cell → Prop} {pos p1 p2 p3 : Pos} {cx qual pa : Str} {st : Stmt} {ps : List Str} {j k : Nat} {C : Con} {E : En}
def rBinI (K : PySem.W.Frag) (C : Addr) (D : Con) : R2 := fun x y H Q => ∃ a dx vs b dy ws, x = .ref a ∧ y = .ref b ∧ H a = some (.ins C dx vs) ∧ H b = some (.ins C dy ws) ∧ spD K D [x, y] H (fun v H2 => (∃ o, v = .ref o) ∧ Q v H2) fun _ _ _ => False
theorem op_binI {op : Operator} (R : RdM X.prog X.w X.K X.mg X.base j cx (PySem.dunder op.info.2) ["self", pa] C) (sf : PySem.W.selfFirst X.K (clsA X.mg cx) = true) (hr : Room k X.A) (hjk : j ≤ k) : OpR X (binaryOp op) (rBinI X.K (clsA X.mg cx) C) := by
  obtain ⟨f, fd, G, hm, hb⟩ := R.ex
  intro pins s σ H x y v u Q I rx ry q
  obtain ⟨ad, dx, vs, bd, dy, ws, rfl, rfl, e1, e2, sp⟩ := q
  obtain rfl : v = .ref ad := rx
  obtain rfl : u = .ref bd := ry
  obtain ⟨mA, O, _⟩ := ins_get I.hok e1
  obtain ⟨mB, O', _⟩ := ins_get I.hok e2
  obtain ⟨od, J, _⟩ := O.look
  obtain ⟨od', J', _⟩ := O'.look
  obtain ⟨mm, fr⟩ := I.fr
  refine PySem.W.binop_K (op := op) fr I.ok.mod.kin J J'.type sf hm.at_ hm.fn ?_
  refine wpAny_mono (call_own (vs := [.ref ad, .ref bd]) (us := [.ref ad, .ref bd]) G hb (hr.mono hjk) I.env0 I (.cons rfl (.cons rfl .nil)) rfl sp) (fun r s' z => ?_) fun _ _ z => z
  obtain ⟨v, H', I', rv, ⟨o, ev⟩, q⟩ := z
  subst ev
  obtain rfl : r = .ref o := rv
  exact ⟨.ref o, H', I', rfl, q⟩
theorem n_binI {op : Operator} (R : RdM X.prog X.w X.K X.mg X.base j cx (PySem.dunder op.info.2) ["self", pa] C) (sf : PySem.W.selfFirst X.K (clsA X.mg cx) = true) (hr : Room k X.A)
    (h : N X ω δ a fun ω1 c1 => N X ω1 δ b fun ω2 c2 => ∃ fs gs, c1 = .dat (insD (clsA X.mg cx) fs) ∧ c2 = .dat (insD (clsA X.mg cx) gs) ∧ C [c1, c2] ω2 fun ω3 c3 => ∃ ks, c3 = .dat (insD (clsA X.mg cx) ks) ∧ Φ ω3 c3) (hjk : j ≤ k := by decide) : N X ω δ (.BinOp a op b pos) Φ :=
  n_bop (op_binI R sf hr hjk) (h.imp fun _ _ h1 => h1.imp fun ω c2 ⟨fs, gs, e1, e2, f2⟩ x y σ H Q s o1 o2 q => by
    subst e1; subst e2
    obtain ⟨ad, dx, vs, ev, h1, h2, h3⟩ := ins_of o1
    subst ev
    obtain ⟨bd, dy, ws, ev, h1', h2', h3'⟩ := ins_of o2
    subst ev
    exact ⟨ad, dx, vs, bd, dy, ws, rfl, rfl, (hid_some h1).2, (hid_some h1').2, ω, _, _, .cons o1 (.cons o2 .nil), s.own, f2, fun ω3 c v H3 ⟨ks, ec, f3⟩ s3 k3 o3 => by
      subst ec
      obtain ⟨cd, dz, zs, ev, _⟩ := ins_of o3
      subst ev
      exact ⟨⟨cd, rfl⟩, q ω3 _ _ H3 f3 ⟨s.env.mono k3, s3⟩ k3 o3⟩⟩)
def rInvI (K : PySem.W.Frag) (C : Addr) (D : Con) : V → Hp → VK → Prop := fun x H Q => ∃ a dx vs, x = .ref a ∧ H a = some (.ins C dx vs) ∧ spD K D [x] H Q fun _ _ _ => False
theorem un_invI (R : RdM X.prog X.w X.K X.mg X.base j cx "__invert__" ["self"] C) (hr : Room k X.A) (hjk : j ≤ k) : UnR X (unaryOp .Invert) (rInvI X.K (clsA X.mg cx) C) := by
  obtain ⟨f, fd, G, hm, hb⟩ := R.ex
  intro pins s σ H x v Q I rx q
  obtain ⟨ad, dx, vs, rfl, e1, sp⟩ := q
  obtain rfl : v = .ref ad := rx
  obtain ⟨mA, O, _⟩ := ins_get I.hok e1
  obtain ⟨od, J, _⟩ := O.look
  obtain ⟨mm, fr⟩ := I.fr
  exact PySem.W.ksp_inv fr I.ok.mod.kin J hm.at_ hm.fn (call_own (vs := [.ref ad]) (us := [.ref ad]) G hb (hr.mono hjk) I.env0 I (.cons rfl .nil) rfl sp)
theorem n_invI (R : RdM X.prog X.w X.K X.mg X.base j cx "__invert__" ["self"] C) (hr : Room k X.A)
    (h : N X ω δ a fun ω1 c1 => ∃ fs, c1 = .dat (insD (clsA X.mg cx) fs) ∧ C [c1] ω1 Φ) (hjk : j ≤ k := by decide) : N X ω δ (.UnaryOp .Invert a pos) Φ :=
  n_op1 (pe_un (un_invI R hr hjk) (WE.pe X a)) (h.imp fun ω1 c1 ⟨fs, e1, f1⟩ x σ H Q s o q => by
    subst e1
    obtain ⟨ad, dx, vs, ev, h1, h2, h3⟩ := ins_of o
    subst ev
    exact ⟨ad, dx, vs, rfl, (hid_some h1).2, ω1, _, Φ, .cons o .nil, s.own, f1, fun ω3 c v H3 f3 s3 k3 o3 => q ω3 c v H3 f3 ⟨s.env.mono k3, s3⟩ k3 o3⟩)
/-- e in one, e not in one -/
def rInI (K : PySem.W.Frag) (C : Addr) (D : Con) (g : Bool → Bool) : R2 := fun x y H Q => ∃ a dx vs, y = .ref a ∧ H a = some (.ins C dx vs) ∧ spD K D [y, x] H (fun v H2 => ∃ k, v = .bl k ∧ Q (.bl (g k)) H2) fun _ _ _ => False
theorem op_inI (R : RdM X.prog X.w X.K X.mg X.base j cx "__contains__" ["self", pa] C) (hr : Room k X.A) (hjk : j ≤ k) : OpR X (compareOp .In) (rInI X.K (clsA X.mg cx) C id) := by
  obtain ⟨f, fd, G, hm, hb⟩ := R.ex
  intro pins s σ H x y v u Q I rx ry q
  obtain ⟨ad, dx, vs, rfl, e1, sp⟩ := q
  obtain rfl : u = .ref ad := ry
  obtain ⟨mA, O, _⟩ := ins_get I.hok e1
  obtain ⟨od, J, _⟩ := O.look
  obtain ⟨mm, fr⟩ := I.fr
  refine PySem.W.in_K fr I.ok.mod.kin J hm.at_ hm.fn ?_
  refine wpAny_mono (call_own (vs := [.ref ad, x]) (us := [.ref ad, v]) G hb (hr.mono hjk) I.env0 I (.cons rfl (.cons rx .nil)) rfl sp) (fun r s' z => ?_) fun _ _ z => z
  obtain ⟨w, H', I', rv, b, ev, q⟩ := z
  subst ev
  cases rv
  exact wpAny_truthy_bool ⟨.bl b, H', I', rfl, q⟩
theorem op_notInI (R : RdM X.prog X.w X.K X.mg X.base j cx "__contains__" ["self", pa] C) (hr : Room k X.A) (hjk : j ≤ k) : OpR X (compareOp .NotIn) (rInI X.K (clsA X.mg cx) C (!·)) := by
  obtain ⟨f, fd, G, hm, hb⟩ := R.ex
  intro pins s σ H x y v u Q I rx ry q
  obtain ⟨ad, dx, vs, rfl, e1, sp⟩ := q
  obtain rfl : u = .ref ad := ry
  obtain ⟨mA, O, _⟩ := ins_get I.hok e1
  obtain ⟨od, J, _⟩ := O.look
  obtain ⟨mm, fr⟩ := I.fr
  refine PySem.W.notIn_K fr I.ok.mod.kin J hm.at_ hm.fn ?_
  refine wpAny_mono (call_own (vs := [.ref ad, x]) (us := [.ref ad, v]) G hb (hr.mono hjk) I.env0 I (.cons rfl (.cons rx .nil)) rfl sp) (fun r s' z => ?_) fun _ _ z => z
  obtain ⟨w, H', I', rv, b, ev, q⟩ := z
  subst ev
  cases rv
  exact wpAny_truthy_bool ⟨.bl (!b), H', I', rfl, q⟩
theorem op2_inI {ω : Ow} {g : Bool → Bool} {c1 c2 : Cell} (h : ∃ fs, c2 = .dat (insD (clsA X.mg cx) fs) ∧ C [c2, c1] ω fun ω3 c3 => ∃ k : Bool, c3 = .dat (.bool k) ∧ Φ ω3 (.dat (.bool (g k)))) : Op2 X (rInI X.K (clsA X.mg cx) C g) ω δ c1 c2 Φ := fun x y σ H Q s o1 o2 q => by
  obtain ⟨fs, e2, f2⟩ := h
  subst e2
  obtain ⟨ad, dx, vs, ev, h1, h2, h3⟩ := ins_of o2
  subst ev
  exact ⟨ad, dx, vs, rfl, (hid_some h1).2, ω, _, _, .cons o2 (.cons o1 .nil), s.own, f2, fun ω3 c v H3 ⟨k, ec, f3⟩ s3 k3 o3 => by
    subst ec
    cases o3
    exact ⟨k, rfl, q ω3 _ _ H3 f3 ⟨s.env.mono k3, s3⟩ k3 (Rp.bl _)⟩⟩
theorem n_inI (R : RdM X.prog X.w X.K X.mg X.base j cx "__contains__" ["self", pa] C) (hr : Room k X.A) (hm : behindInMarks .In b = false)
    (h : N X ω δ a fun ω1 c1 => N X ω1 δ b fun ω2 c2 => ∃ fs, c2 = .dat (insD (clsA X.mg cx) fs) ∧ C [c2, c1] ω2 fun ω3 c3 => ∃ k : Bool, c3 = .dat (.bool k) ∧ Φ ω3 (.dat (.bool k))) (hjk : j ≤ k := by decide) : N X ω δ (.Compare a [.In] [b] pos) Φ :=
  n_cop (op_inI R hr hjk) hm (h.imp fun _ _ h1 => h1.imp fun _ _ h2 => op2_inI (g := id) h2)
theorem nt_inI {Ψ : Ow → Bool → Prop} (R : RdM X.prog X.w X.K X.mg X.base j cx "__contains__" ["self", pa] C) (hr : Room k X.A) (hm : behindInMarks .In b = false)
    (h : N X ω δ a fun ω1 c1 => N X ω1 δ b fun ω2 c2 => ∃ fs, c2 = .dat (insD (clsA X.mg cx) fs) ∧ C [c2, c1] ω2 fun ω3 c3 => ∃ k : Bool, c3 = .dat (.bool k) ∧ isB ω3 (fun ω4 k => Ψ ω4 k) (.dat (.bool k))) (hjk : j ≤ k := by decide) : NT X ω δ (.Compare a [.In] [b] pos) Ψ :=
  nt_cop (op_inI R hr hjk) hm (h.imp fun _ _ h1 => h1.imp fun _ _ h2 => op2_inI (g := id) h2)
theorem nt_notInI {Ψ : Ow → Bool → Prop} (R : RdM X.prog X.w X.K X.mg X.base j cx "__contains__" ["self", pa] C) (hr : Room k X.A) (hm : behindInMarks .NotIn b = false)
    (h : N X ω δ a fun ω1 c1 => N X ω1 δ b fun ω2 c2 => ∃ fs, c2 = .dat (insD (clsA X.mg cx) fs) ∧ C [c2, c1] ω2 fun ω3 c3 => ∃ k : Bool, c3 = .dat (.bool k) ∧ isB ω3 (fun ω4 k => Ψ ω4 k) (.dat (.bool (!k)))) (hjk : j ≤ k := by decide) : NT X ω δ (.Compare a [.NotIn] [b] pos) Ψ :=
  nt_cop (op_notInI R hr hjk) hm (h.imp fun _ _ h1 => h1.imp fun _ _ h2 => op2_inI (g := (!·)) h2)
end
/-- a class that stands first in its own line of ancestors -/
theorem first_mk {K : PySem.W.Frag} {mg : Str → Option Value} {x : Str} {C : Addr} {h : Heap} (X : K.In h) (G : h.Ns mainGlobals mg) (a : PySem.W.nsIn K mainGlobals x = some (some (.ref C))) (sf : PySem.W.selfFirst K C = true) : PySem.W.selfFirst K (clsA mg x) = true := by
  rw [clsA_of (PySem.W.mg_of X G a)]
  exact sf
end DL

namespace DL
open PySem PySem.Spec L2 PyProof.Rows
section
variable {X : Cx} {ω : Ow} {δ : Env} {a b e : Expr} {Φ : Ow → Cell → Prop} {pos p1 p2 p3 : Pos} {x y : Str} {E : En} {body : List Stmt} {kk : Nat}
/-- for x, y in a list of pairs -/
theorem s_forPL (j l : Nat) {iter : Expr} (hp : PassesOwn (model X.prog X.w) X.A X.env X.xe) (hc : X.calm = true) (hn : X.N.Nodup)
    (h : N X ω δ iter fun ω1 c => ∃ ds, c = .dat (.list ds) ∧ (∀ d ∈ ds, ∃ d1 d2, d = .tuple [d1, d2]) ∧ ∃ I : Nat → Ow → Env → Prop, I 0 ω1 δ ∧
      (∀ i ω2 δ2 d1 d2, ds[i]? = some (.tuple [d1, d2]) → I i ω2 δ2 → B X ω2 ((δ2.set j (some (.dat d1))).set l (some (.dat d2))) body { nx := I (i + 1), ct := I (i + 1), bk := E.nx, rt := E.rt }) ∧ ∀ ω2 δ2, I ds.length ω2 δ2 → E.nx ω2 δ2)
    (hN : X.N[j]? = some x := by rfl) (hN2 : X.N[l]? = some y := by rfl)
    (hx : Loc X.env.scope x := by first | exact Or.inl rfl | exact Or.inr rfl) (hy : Loc X.env.scope y := by first | exact Or.inl rfl | exact Or.inr rfl)
    (hf : X.fn x = true ∨ X.env.scope.names.lookup x = some .local := by first | exact .inl rfl | exact .inr rfl | assumption) (hf2 : X.fn y = true ∨ X.env.scope.names.lookup y = some .local := by first | exact .inl rfl | exact .inr rfl | assumption)
    (h1 : (assignEach [.Name x p1, .Name y p2] X.env).map (·.2) = assign (.Name x p1) X.env :: (assignEach [.Name y p2] X.env).map (·.2) := by rfl) (h2 : (assignEach [.Name y p2] X.env).map (·.2) = assign (.Name y p2) X.env :: (assignEach [] X.env).map (·.2) := by rfl)
    (h3 : (assignEach [.Name x p1, .Name y p2] X.env).length = 2 := by rfl) (h4 : (assignEach [.Name x p1, .Name y p2] X.env).findIdx? (·.1) = none := by rfl)
    (hs : ∀ z, foldedSetIterable iter X.env z = pure z := by intro _; rfl) : S X ω δ (.For (.Tuple [.Name x p1, .Name y p2] kk p3) iter body [] pos) E := fun σ H D s f =>
  WS.of (ps_for hp hc (pi_list (WE.pe X iter)) (pg_tup hc (pgs_cons (pg_name hn hN hx hf) (pgs_cons (pg_name hn hN2 hy hf2) pgs_nil h2) h1) h3 h4) (WB.pss X body) hs) (h σ H _ s fun ω1 c v H1 ⟨ds, e1, hpr, I, i0, it, ie⟩ s1 k1 o1 => by
    subst e1
    cases o1 with
    | @lst a xs _ hl hr =>
      refine ⟨a, rfl, ⟨xs, SqL.of (hid_some hl).2⟩, for_list (K := X.K) (a := a) (xs := xs) (fun i σ' H' => ∃ ω2 δ2, I i ω2 δ2 ∧ StOk X.K ω2 δ2 σ' H' ∧ Kp (dom ω1) H1 (dom ω2) H') ⟨ω1, δ, i0, s1, Kp.refl _ _⟩ ?_ ?_ ?_⟩
      · rintro i σ' H' _ ⟨ω2, δ2, _, _, k2⟩
        exact SqL.of (hid_some (k2 _ _ hl)).2
      · rintro i y σ' H' hy ⟨ω2, δ2, hi, s2, k2⟩
        obtain ⟨d, hd, rd⟩ := hr.get' hy
        obtain ⟨d1, d2, rfl⟩ := hpr _ (List.mem_of_getElem? hd)
        have rd1 := rd.mono k2
        cases rd1 with
        | tup sq ra =>
        cases ra with
        | cons r1 ra =>
        cases ra with
        | cons r2 ra =>
        cases ra
        have sq' := sqt_hid sq
        refine ⟨_, _, rfl, sq', rfl, _, _, rfl, _, _, rfl, rfl, ?_⟩
        exact it i ω2 δ2 d1 d2 hd hi _ _ _ ((s2.store j (c := .dat d1) r1).store l (c := .dat d2) r2) ⟨fun ω3 δ3 σ3 H3 q s3 k3 => ⟨ω3, δ3, q, s3, k2.trans k3⟩, fun ω3 c v H3 q s3 k3 o3 => f.rt ω3 c v H3 q s3 (k1.trans (k2.trans k3)) o3, fun ω3 δ3 σ3 H3 q s3 k3 => f.nx ω3 δ3 σ3 H3 q s3 (k1.trans (k2.trans k3)), fun ω3 δ3 σ3 H3 q s3 k3 => ⟨ω3, δ3, q, s3, k2.trans k3⟩⟩
      · rintro σ' H' ⟨ω2, δ2, hi, s2, k2⟩
        rw [hr.len] at hi
        exact f.nx ω2 δ2 σ' H' (ie ω2 δ2 hi) s2 (k1.trans k2))
/-- sum(a list of integers) -/
theorem n_sum (hc : X.calm = true) (hm : X.mg "sum" = none) (h : N X ω δ a fun ω1 c => ∃ ns : List Int, c = .dat (.list (ns.map .int)) ∧ Φ ω1 (.dat (.int ns.sum))) (hg : Gl X "sum" := by rfl) (he : starEach [a] X.env = (false, eval a X.env) :: starEach [] X.env := by rfl) : N X ω δ (.Call (.Name "sum" p1) [a] [] pos) Φ :=
  n_callB (cr_sum hc) hm (na_cons (h.imp fun ω1 c ⟨ns, e1, f⟩ => na_nil fun vs σ H Q s o q => by
    subst e1
    obtain ⟨v, rfl, ov⟩ := cells1 o
    cases ov with
    | lst hl r =>
      cases r.is
      exact ⟨_, ns, rfl, SqL.of (hid_some hl).2, q ω1 _ _ H f s (Kp.refl _ _) (Rp.int _)⟩) he) hg (he := he)
/-- x = y = e -/
theorem s_asg2 (i j : Nat) (hN : X.N.Nodup) (h : N X ω δ e fun ω1 c => E.nx ω1 ((δ.set i (some c)).set j (some c))) (hi : X.N[i]? = some x := by rfl) (hj : X.N[j]? = some y := by rfl) (hx : Loc X.env.scope x := by first | exact Or.inl rfl | exact Or.inr rfl) (hy : Loc X.env.scope y := by first | exact Or.inl rfl | exact Or.inr rfl)
    (hf : X.fn x = true ∨ X.env.scope.names.lookup x = some .local := by first | exact .inl rfl | exact .inr rfl | assumption) (hf2 : X.fn y = true ∨ X.env.scope.names.lookup y = some .local := by first | exact .inl rfl | exact .inr rfl | assumption)
    (ha : (assignEach [.Name x p1, .Name y p2] X.env).map (·.2) = [assign (.Name x p1) X.env, assign (.Name y p2) X.env] := by rfl) (hw : swappedStores [.Name x p1, .Name y p2] e X.env = pure none := by rfl) : S X ω δ (.Assign [.Name x p1, .Name y p2] e pos) E := fun σ H D s f =>
  WS.of (ps_asg2 (WE.pe X e) (pg_name hN hi hx hf) (pg_name hN hj hy hf2) ha hw) (h σ H _ s fun ω1 c v H1 q s1 k1 o1 => f.nx ω1 _ _ H1 q ((s1.store i o1).store j o1) k1)
/-- an owned list as a test -/
theorem nt_truO {Ψ : Ow → Bool → Prop} (h : N X ω δ a fun ω1 c => ∃ (n : Nat) (p : Addr) (ds : List PyData), c = .raw (.ref p) ∧ ω1[n]? = some (p, lstP ds) ∧ Ψ ω1 (!ds.isEmpty)) (he : ∀ whole, isTrue a X.env whole = (do let v ← whole; standAt a.pos; holding [v] (truthy v)) := by intro _; rfl) : NT X ω δ a Ψ := fun σ H Q s q =>
  WT.of (pt_truth (WE.pe X a) he) (h σ H _ s fun ω1 c v H1 ⟨n, p, ds, e1, hw, f⟩ s1 k1 o1 => by
    subst e1
    cases o1
    obtain ⟨u, m1, vs, rfl, m2⟩ := s1.own.at_ p _ (List.mem_of_getElem? hw)
    refine ⟨_, .inl ⟨vs, SqL.of m1, rfl⟩, q ω1 _ H1 ?_ s1 k1⟩
    have e : vs.isEmpty = ds.isEmpty := by cases m2 <;> rfl
    rw [e]
    exact f)
end
section
variable {X : Cx} {ω : Ow} {δ : Env} {e b1 b2 : Expr} {E : En} {pos p1 p2 q1 q2 pt : Pos} {x y : Str} {kt : Nat}
/-- o[i], o2[j] = two things, two owned lists -/
theorem s_putO2 (i n i2 n2 : Nat) {p r : Addr} (hc : X.calm = true) (hd : δ[i]? = some (some (.raw (.ref p)))) (hd2 : δ[i2]? = some (some (.raw (.ref r)))) (h : N X ω δ e fun ω1 c1 => ∃ d1 d2, c1 = .dat (.tuple [d1, d2]) ∧ N X ω1 δ b1 fun ω2 c2 => ∃ ds k j, ω2[n]? = some (p, lstP ds) ∧ c2 = .dat (.int k) ∧ ixN ds.length k = some j ∧ N X (ω2.set n (p, lstP (ds.set j d1))) δ b2 fun ω3 c3 => ∃ es k2 j2, ω3[n2]? = some (r, lstP es) ∧ c3 = .dat (.int k2) ∧ ixN es.length k2 = some j2 ∧ E.nx (ω3.set n2 (r, lstP (es.set j2 d2))) δ) (hN : X.N[i]? = some x := by rfl) (hN2 : X.N[i2]? = some y := by rfl)
    (hs : swapsWithSole [.Tuple [.Subscript (.Name x p1) b1 q1, .Subscript (.Name y p2) b2 q2] kt pt] e pos.line X.env = pure false := by rfl) (hw : swappedStores [.Tuple [.Subscript (.Name x p1) b1 q1, .Subscript (.Name y p2) b2 q2] kt pt] e X.env = pure none := by rfl)
    (h1 : (assignEach [.Tuple [.Subscript (.Name x p1) b1 q1, .Subscript (.Name y p2) b2 q2] kt pt] X.env).map (·.2) = [assign (.Tuple [.Subscript (.Name x p1) b1 q1, .Subscript (.Name y p2) b2 q2] kt pt) X.env] := by rfl)
    (h2 : (assignEach [.Subscript (.Name x p1) b1 q1, .Subscript (.Name y p2) b2 q2] X.env).map (·.2) = assign (.Subscript (.Name x p1) b1 q1) X.env :: (assignEach [.Subscript (.Name y p2) b2 q2] X.env).map (·.2) := by rfl)
    (h3 : (assignEach [.Subscript (.Name y p2) b2 q2] X.env).map (·.2) = assign (.Subscript (.Name y p2) b2 q2) X.env :: (assignEach [] X.env).map (·.2) := by rfl)
    (h4 : (assignEach [.Subscript (.Name x p1) b1 q1, .Subscript (.Name y p2) b2 q2] X.env).length = 2 := by rfl) (h5 : (assignEach [.Subscript (.Name x p1) b1 q1, .Subscript (.Name y p2) b2 q2] X.env).findIdx? (·.1) = none := by rfl)
    (ha : ∀ v, assign (.Subscript (.Name x p1) b1 q1) X.env v = (do
      let ov ← holding [v] (eval (.Name x p1) X.env)
      let iv ← holding [v, ov] (eval b1 X.env)
      standAt q1
      holding [v, ov, iv] (setItem ov iv v)
      release [v, ov, iv] []) := by intro _; rfl)
    (ha2 : ∀ v, assign (.Subscript (.Name y p2) b2 q2) X.env v = (do
      let ov ← holding [v] (eval (.Name y p2) X.env)
      let iv ← holding [v, ov] (eval b2 X.env)
      standAt q2
      holding [v, ov, iv] (setItem ov iv v)
      release [v, ov, iv] []) := by intro _; rfl)
    (hv : Vis X.env.scope x := by first | exact Or.inl rfl | exact Or.inr (Or.inl rfl) | exact Or.inr (Or.inr rfl)) (hg : (x == ("__debug__" : Str)) = false := by decide) (hcd : (x == ("__classdict__" : Str)) = false := by decide) (hv2 : Vis X.env.scope y := by first | exact Or.inl rfl | exact Or.inr (Or.inl rfl) | exact Or.inr (Or.inr rfl)) (hg2 : (y == ("__debug__" : Str)) = false := by decide) (hcd2 : (y == ("__classdict__" : Str)) = false := by decide) : S X ω δ (.Assign [.Tuple [.Subscript (.Name x p1) b1 q1, .Subscript (.Name y p2) b2 q2] kt pt] e pos) E := fun σ H D s f =>
  WS.of (ps_asg (WE.pe X e) (pg_tup hc (pgs_cons (pg_sub (pe_var hN hv hg hcd) (WE.pe X b1) set_list ha) (pgs_cons (pg_sub (pe_var hN2 hv2 hg2 hcd2) (WE.pe X b2) set_list ha2) pgs_nil h3) h2) h4 h5) hs hw h1) (h σ H _ s fun ω1 c1 v1 H1 ⟨d1, d2, e1, f1⟩ s1 k1 o1 => by
    subst e1
    cases o1 with
    | tup sq ra =>
    cases ra with
    | @cons va _ _ _ r1 ra =>
    cases ra with
    | @cons vb _ _ _ r2 ra =>
    cases ra
    have sq' := sqt_hid sq
    obtain ⟨v, g1, g2⟩ := s1.get hd
    cases g2
    obtain ⟨v', g1', g2'⟩ := s1.get hd2
    cases g2'
    refine ⟨_, _, rfl, sq', rfl, _, _, rfl, ⟨_, g1, f1 σ H1 _ s1 fun ω2 c2 v2 H2 ⟨ds, k, j, hw2, e2, hj, f2⟩ s2 k2 o2 => ?_⟩⟩
    subst e2
    cases int_of o2
    obtain ⟨u, m1, vs, rfl, m2⟩ := s2.own.at_ p _ (List.mem_of_getElem? hw2)
    have m3 := r1.mono k2
    refine ⟨p, vs, k, j, rfl, rfl, m1, by rw [m2.len]; exact hj, ?_⟩
    have s3 := s2.put hw2 (P' := lstP (ds.set j d1)) ⟨_, rfl, m2.set m3 j⟩
    have k3 : Kp (dom ω2) H2 (dom (ω2.set n (p, lstP (ds.set j d1)))) (upd H2 p (.lst (vs.set j va))) := by rw [dom_set hw2]; exact kp_upd (mem_dom hw2)
    refine ⟨_, _, rfl, ⟨_, g1', f2 σ _ _ s3 fun ω3 c3 v3 H3 ⟨es, l, j2, hw3, e3, hj3, q⟩ s4 k4 o3 => ?_⟩⟩
    subst e3
    cases int_of o3
    obtain ⟨u2, m5, ws, rfl, m6⟩ := s4.own.at_ r _ (List.mem_of_getElem? hw3)
    have n3 := r2.mono (k2.trans (k3.trans k4))
    refine ⟨r, ws, l, j2, rfl, rfl, m5, by rw [m6.len]; exact hj3, rfl, ?_⟩
    exact f.nx _ _ _ _ q (s4.put hw3 ⟨_, rfl, m6.set n3 j2⟩) (by rw [dom_set hw3]; exact (k1.trans (k2.trans (k3.trans k4))).trans (kp_upd (mem_dom hw3))))
end
end DL

namespace DL
open PySem PySem.Spec L2 PyProof.Rows
section
variable {X : Cx} {ω : Ow} {δ : Env} {elt iter test : Expr} {Φ : Ow → Cell → Prop} {pos p1 p2 p3 : Pos} {x y : Str} {scope : Scope} {kk : Nat}
/-- [elt for x, y in a list of pairs if test] -/
theorem t_lcLpi (j l : Nat) (hjl : j ≠ l)
    (h : N X ω δ iter fun ω1 c => ∃ ds, c = .dat (.list ds) ∧ (∀ d ∈ ds, ∃ d1 d2, d = .tuple [d1, d2]) ∧ ∃ J : Nat → Ow → List PyData → Prop, J 0 ω1 [] ∧
      (∀ i ω2 acc D d1 d2, ds[i]? = some (.tuple [d1, d2]) → J i ω2 acc → BlkF X scope fun Y => NT Y ((D, lstP acc) :: ω2) ((((δ.set l none).set j none).set j (some (.dat d1))).set l (some (.dat d2))) test fun ω3 k =>
        if k = true then BlkF X scope fun Y => N Y ω3 ((((δ.set l none).set j none).set j (some (.dat d1))).set l (some (.dat d2))) elt fun ω3 c => ∃ d, c = .dat d ∧ acc.length < 100000 ∧ ∃ ω4, ω3 = (D, lstP acc) :: ω4 ∧ J (i + 1) ω4 (acc ++ [d]) else ∃ ω4, ω3 = (D, lstP acc) :: ω4 ∧ J (i + 1) ω4 acc) ∧
      ∀ ω2 acc, J ds.length ω2 acc → Φ ω2 (.dat (.list acc))) {σ : L2.St} {H : Hp} {Q : VK} (s : StOk X.K ω δ σ H) (q : ∀ ω' c v H', Φ ω' c → StOk X.K ω' δ σ H' → Kp (dom ω) H (dom ω') H' → CellOk X.K (dom ω') H' v c → Q v H') :
    tLc (iList X.K (WE X iter)) (gTup X.K 2 (gCons (gName j) (gCons (gName l) gNil))) (fun σ H Q => BlkF X scope fun Y => WT Y test σ H Q) (fun σ H Q => BlkF X scope fun Y => WE Y elt σ H Q) [j, l] σ H Q :=
  h σ H _ s fun ω1 c v H1 ⟨ds, e1, hpr, J, j0, jt, je⟩ s1 k1 o1 => by
    subst e1
    cases o1 with
    | @lst qa xs _ hl hr =>
      refine ⟨qa, rfl, ⟨xs, SqL.of (hid_some hl).2⟩, fun D hD => ?_⟩
      have hD0 : (lstP []).ok X.K (hid (dom ω1) H1) (.lst []) := ⟨[], rfl, .nil⟩
      refine lc_list (K := X.K) (a := qa) (xs := xs) (g := gTup X.K 2 (gCons (gName j) (gCons (gName l) gNil))) (tt := fun σ H Q => BlkF X scope fun Y => WT Y test σ H Q) (te := fun σ H Q => BlkF X scope fun Y => WE Y elt σ H Q) (vs := [j, l]) (σ := σ) (H1 := H1) (D := D) (Qd := fun H => Q (.ref D) H) (fun i H' => ∃ ω2 acc, J i ω2 acc ∧ StOk X.K ((D, lstP acc) :: ω2) δ σ H' ∧ Kp (dom ω1) H1 (D :: dom ω2) H') ⟨ω1, [], j0, s1.cons hD hD0, (s1.own.cons hD hD0).2⟩ ?_ ?_ ?_
      · rintro i H' _ ⟨ω2, acc, _, _, k2⟩
        exact SqL.of (hid_some (k2 _ _ hl)).2
      · rintro i y H' hy ⟨ω2, acc, hJ, s2, k2⟩
        obtain ⟨d0, hd0, rd0⟩ := hr.get' hy
        obtain ⟨d1, d2, rfl⟩ := hpr _ (List.mem_of_getElem? hd0)
        have rd1 := rd0.mono k2
        cases rd1 with
        | tup sq ra =>
        cases ra with
        | cons r1 ra =>
        cases ra with
        | cons r2 ra =>
        cases ra
        have sq' := sqt_hid sq
        refine ⟨_, _, rfl, sq', rfl, _, _, rfl, _, _, rfl, rfl, wipe3 hjl, fun s3 H3 C cl fp => ?_⟩
        have sB : StOk X.K ((D, lstP acc) :: ω2) ((((δ.set l none).set j none).set j (some (.dat d1))).set l (some (.dat d2))) (((wipe σ [j, l]).set j (some _)).set l (some _)) H' := ⟨(((s2.env.wipe l).wipe j).set (c := .dat d1) r1 j).set (c := .dat d2) r2 l, s2.own⟩
        refine jt i ω2 acc D d1 d2 hd0 hJ s3 H3 C cl fp _ _ _ sB fun ω5 k H5 f5 s5 k5 => ?_
        cases k with
        | true =>
          refine fun s6 H6 C6 cl6 fp6 => f5 s6 H6 C6 cl6 fp6 _ _ _ s5 fun ω3 c v H4 ⟨d, e1, hz, ω4, e2, hJ'⟩ s4 k4 o4 => ?_
          subst e1; subst e2
          obtain ⟨u, m1, vs, rfl, m2⟩ := s4.own.at_ D _ List.mem_cons_self
          have ho : (lstP (acc ++ [d])).ok X.K (hid (dom ((D, lstP acc) :: ω4)) H4) (.lst (vs ++ [v])) := ⟨_, rfl, m2.append (.cons o4 .nil)⟩
          refine ⟨vs, m1, by rw [m2.len]; exact Nat.lt_of_lt_of_le hz (by decide), ω4, _, hJ', ?_, (k2.trans (k5.trans k4)).trans (kp_upd List.mem_cons_self)⟩
          have oo := s4.own.put (i := 0) (p := D) (P := lstP acc) rfl ho
          exact ⟨s2.env.mono ((k5.trans k4).trans (kp_upd List.mem_cons_self)), oo⟩
        | false =>
          obtain ⟨ω4, e2, hJ'⟩ := f5
          subst e2
          exact ⟨ω4, acc, hJ', ⟨s2.env.mono k5, s5.own⟩, k2.trans k5⟩
      · rintro H' ⟨ω2, acc, hJ, s2, k2⟩
        rw [hr.len] at hJ
        exact q ω2 _ _ H' (je ω2 acc hJ) s2.drop (k1.trans (k2.trans (kp_drop (P := lstP acc)))) (own_lst s2.own)
theorem n_lcLpi (j l : Nat) (hjl : j ≠ l) (hc : X.calm = true) (hn : X.N.Nodup) (hb : BlkOk X.N X.env.scope scope [(x, j), (y, l)])
    (h : N X ω δ iter fun ω1 c => ∃ ds, c = .dat (.list ds) ∧ (∀ d ∈ ds, ∃ d1 d2, d = .tuple [d1, d2]) ∧ ∃ J : Nat → Ow → List PyData → Prop, J 0 ω1 [] ∧
      (∀ i ω2 acc D d1 d2, ds[i]? = some (.tuple [d1, d2]) → J i ω2 acc → BlkF X scope fun Y => NT Y ((D, lstP acc) :: ω2) ((((δ.set l none).set j none).set j (some (.dat d1))).set l (some (.dat d2))) test fun ω3 k =>
        if k = true then BlkF X scope fun Y => N Y ω3 ((((δ.set l none).set j none).set j (some (.dat d1))).set l (some (.dat d2))) elt fun ω3 c => ∃ d, c = .dat d ∧ acc.length < 100000 ∧ ∃ ω4, ω3 = (D, lstP acc) :: ω4 ∧ J (i + 1) ω4 (acc ++ [d]) else ∃ ω4, ω3 = (D, lstP acc) :: ω4 ∧ J (i + 1) ω4 acc) ∧
      ∀ ω2 acc, J ds.length ω2 acc → Φ ω2 (.dat (.list acc)))
    (hgt : BlkF X scope fun Y => PG Y (.Tuple [.Name x p1, .Name y p2] kk p3) (gTup X.K 2 (gCons (gName j) (gCons (gName l) gNil)))) (hs : ∀ y, foldedSetIterable iter X.env y = pure y := by intro _; rfl) : N X ω δ (.ListComp elt [{ target := .Tuple [.Name x p1, .Name y p2] kk p3, iter := iter, ifs := [test], is_async := 0 }] scope pos) Φ :=
  n_lift (pe_lc (own := [(x, j), (y, l)]) (g := gTup X.K 2 (gCons (gName j) (gCons (gName l) gNil))) (tt := fun σ H Q => BlkF X scope fun Y => WT Y test σ H Q) (te := fun σ H Q => BlkF X scope fun Y => WE Y elt σ H Q) hc hn (pi_list (WE.pe X iter)) hb hgt (fun s H C cl fp => pts_one ⟨fun pins s' σ' H' Q I q => q s H C cl fp pins s' I⟩) (fun s H C cl fp => ⟨fun pins s' σ' H' Q I q => q s H C cl fp pins s' I⟩) hs) fun σ H Q s q => t_lcLpi j l hjl h s q
end
section
variable {X : Cx} {ω : Ow} {δ : Env} {a b : Expr} {pos : Pos}
/-- d not in a list of data -/
theorem nt_notInD {Ψ : Ow → Bool → Prop} (hu : X.A.units + 65 < cLine) (hm : behindInMarks .NotIn b = false) (h : N X ω δ a fun ω1 c1 => N X ω1 δ b fun ω2 c2 => ∃ d ds, c1 = .dat d ∧ c2 = .dat (.list ds) ∧ SeqAt.shaped d = true ∧ SeqAt.shaped (.list ds) = true ∧ Ψ ω2 (!ds.any fun z => PyData.eqv z d)) : NT X ω δ (.Compare a [.NotIn] [b] pos) Ψ :=
  nt_cop (op_notInD hu) hm (h.imp fun _ _ h1 => h1.imp fun _ _ ⟨d, ds, e1, e2, h2, h3, f⟩ => op2_notInD ⟨d, ds, e1, e2, h2, h3, isB.mk f⟩)
end
section
variable {X : Cx} {ω : Ow} {δ : Env} {a b c : Expr} {E : En} {pos : Pos}
/-- a, b, c = x, y, z: plain local names -/
theorem s_par3 (i j l : Nat) {x y z : Str} {px py pz pt : Pos} {kt k2 pt2} (hc : X.calm = true) (hN : X.N.Nodup) (h : NA X ω δ [a, b, c] fun ω1 cs => ∃ c1 c2 c3, cs = [c1, c2, c3] ∧ E.nx ω1 (((δ.set i (some c1)).set j (some c2)).set l (some c3)))
    (hij : i ≠ j := by decide) (hil : i ≠ l := by decide) (hjl : j ≠ l := by decide) (hi : X.N[i]? = some x := by rfl) (hj : X.N[j]? = some y := by rfl) (hl : X.N[l]? = some z := by rfl) (hx : X.env.scope.names.lookup x = some .local := by rfl) (hy : X.env.scope.names.lookup y = some .local := by rfl) (hz : X.env.scope.names.lookup z = some .local := by rfl)
    (hw : swappedStores [.Tuple [.Name x px, .Name y py, .Name z pz] kt pt] (.Tuple [a, b, c] k2 pt2) X.env = pure (some [x, y, z]) := by rfl)
    (hs : swapsWithSole [.Tuple [.Name x px, .Name y py, .Name z pz] kt pt] (.Tuple [a, b, c] k2 pt2) pos.line X.env = pure false := by rfl) : S X ω δ (.Assign [.Tuple [.Name x px, .Name y py, .Name z pz] kt pt] (.Tuple [a, b, c] k2 pt2) pos) E := fun σ H D s f =>
  WS.of (ps_par3 hc hN hi hj hl hij hil hjl hx hy hz (WA.pa X _) hw hs) (h σ H _ s fun ω1 cs vs H1 ⟨c1, c2, c3, e1, q⟩ s1 k1 o1 => by
    subst e1
    cases o1 with
    | cons o1 r =>
      cases r with
      | cons o2 r =>
        cases r with
        | cons o3 r =>
          cases r
          exact ⟨_, _, _, rfl, f.nx ω1 _ _ H1 q (((s1.store i o1).store j o2).store l o3) k1⟩)
end
end DL

namespace DL
open PySem PySem.Spec L2 PyProof.Rows
section
variable {X : Cx} {ω : Ow} {δ : Env} {elt iter : Expr} {Φ : Ow → Cell → Prop} {pos p1 p2 p3 : Pos} {x y : Str} {scope : Scope} {kk : Nat}
/-- [elt for x, y in a list of pairs], the list owned -/
theorem t_lcLpO (j l : Nat) (hjl : j ≠ l)
    (h : N X ω δ iter fun ω1 c => ∃ ds, c = .dat (.list ds) ∧ (∀ d ∈ ds, ∃ d1 d2, d = .tuple [d1, d2]) ∧ ∃ J : Nat → Ow → List PyData → Prop, J 0 ω1 [] ∧
      (∀ i ω2 acc D d1 d2, ds[i]? = some (.tuple [d1, d2]) → J i ω2 acc → BlkF X scope fun Y => N Y ((D, lstP acc) :: ω2) ((((δ.set l none).set j none).set j (some (.dat d1))).set l (some (.dat d2))) elt fun ω3 c => ∃ d, c = .dat d ∧ acc.length < 100000 ∧ ∃ ω4, ω3 = (D, lstP acc) :: ω4 ∧ J (i + 1) ω4 (acc ++ [d])) ∧
      ∀ ω2 acc D, J ds.length ω2 acc → Φ ((D, lstP acc) :: ω2) (.raw (.ref D))) {σ : L2.St} {H : Hp} {Q : VK} (s : StOk X.K ω δ σ H) (q : ∀ ω' c v H', Φ ω' c → StOk X.K ω' δ σ H' → Kp (dom ω) H (dom ω') H' → CellOk X.K (dom ω') H' v c → Q v H') :
    tLc (iList X.K (WE X iter)) (gTup X.K 2 (gCons (gName j) (gCons (gName l) gNil))) tYes (fun σ H Q => BlkF X scope fun Y => WE Y elt σ H Q) [j, l] σ H Q :=
  h σ H _ s fun ω1 c v H1 ⟨ds, e1, hpr, J, j0, jt, je⟩ s1 k1 o1 => by
    subst e1
    cases o1 with
    | @lst qa xs _ hl hr =>
      refine ⟨qa, rfl, ⟨xs, SqL.of (hid_some hl).2⟩, fun D hD => ?_⟩
      have hD0 : (lstP []).ok X.K (hid (dom ω1) H1) (.lst []) := ⟨[], rfl, .nil⟩
      refine lc_list (K := X.K) (a := qa) (xs := xs) (g := gTup X.K 2 (gCons (gName j) (gCons (gName l) gNil))) (tt := tYes) (te := fun σ H Q => BlkF X scope fun Y => WE Y elt σ H Q) (vs := [j, l]) (σ := σ) (H1 := H1) (D := D) (Qd := fun H => Q (.ref D) H) (fun i H' => ∃ ω2 acc, J i ω2 acc ∧ StOk X.K ((D, lstP acc) :: ω2) δ σ H' ∧ Kp (dom ω1) H1 (D :: dom ω2) H') ⟨ω1, [], j0, s1.cons hD hD0, (s1.own.cons hD hD0).2⟩ ?_ ?_ ?_
      · rintro i H' _ ⟨ω2, acc, _, _, k2⟩
        exact SqL.of (hid_some (k2 _ _ hl)).2
      · rintro i y H' hy ⟨ω2, acc, hJ, s2, k2⟩
        obtain ⟨d0, hd0, rd0⟩ := hr.get' hy
        obtain ⟨d1, d2, rfl⟩ := hpr _ (List.mem_of_getElem? hd0)
        have rd1 := rd0.mono k2
        cases rd1 with
        | tup sq ra =>
        cases ra with
        | cons r1 ra =>
        cases ra with
        | cons r2 ra =>
        cases ra
        have sq' := sqt_hid sq
        refine ⟨_, _, rfl, sq', rfl, _, _, rfl, _, _, rfl, rfl, wipe3 hjl, fun s3 H3 C cl fp => ?_⟩
        have sB : StOk X.K ((D, lstP acc) :: ω2) ((((δ.set l none).set j none).set j (some (.dat d1))).set l (some (.dat d2))) (((wipe σ [j, l]).set j (some _)).set l (some _)) H' := ⟨(((s2.env.wipe l).wipe j).set (c := .dat d1) r1 j).set (c := .dat d2) r2 l, s2.own⟩
        refine jt i ω2 acc D d1 d2 hd0 hJ s3 H3 C cl fp _ _ _ sB fun ω3 c v H4 ⟨d, e1, hz, ω4, e2, hJ'⟩ s4 k4 o4 => ?_
        subst e1; subst e2
        obtain ⟨u, m1, vs, rfl, m2⟩ := s4.own.at_ D _ List.mem_cons_self
        have ho : (lstP (acc ++ [d])).ok X.K (hid (dom ((D, lstP acc) :: ω4)) H4) (.lst (vs ++ [v])) := ⟨_, rfl, m2.append (.cons o4 .nil)⟩
        refine ⟨vs, m1, by rw [m2.len]; exact Nat.lt_of_lt_of_le hz (by decide), ω4, _, hJ', ?_, (k2.trans k4).trans (kp_upd List.mem_cons_self)⟩
        have oo := s4.own.put (i := 0) (p := D) (P := lstP acc) rfl ho
        exact ⟨s2.env.mono (k4.trans (kp_upd List.mem_cons_self)), oo⟩
      · rintro H' ⟨ω2, acc, hJ, s2, k2⟩
        rw [hr.len] at hJ
        exact q _ _ _ H' (je ω2 acc D hJ) s2 (k1.trans k2) rfl
theorem n_lcLpO (j l : Nat) (hjl : j ≠ l) (hc : X.calm = true) (hn : X.N.Nodup) (hb : BlkOk X.N X.env.scope scope [(x, j), (y, l)])
    (h : N X ω δ iter fun ω1 c => ∃ ds, c = .dat (.list ds) ∧ (∀ d ∈ ds, ∃ d1 d2, d = .tuple [d1, d2]) ∧ ∃ J : Nat → Ow → List PyData → Prop, J 0 ω1 [] ∧
      (∀ i ω2 acc D d1 d2, ds[i]? = some (.tuple [d1, d2]) → J i ω2 acc → BlkF X scope fun Y => N Y ((D, lstP acc) :: ω2) ((((δ.set l none).set j none).set j (some (.dat d1))).set l (some (.dat d2))) elt fun ω3 c => ∃ d, c = .dat d ∧ acc.length < 100000 ∧ ∃ ω4, ω3 = (D, lstP acc) :: ω4 ∧ J (i + 1) ω4 (acc ++ [d])) ∧
      ∀ ω2 acc D, J ds.length ω2 acc → Φ ((D, lstP acc) :: ω2) (.raw (.ref D)))
    (hgt : BlkF X scope fun Y => PG Y (.Tuple [.Name x p1, .Name y p2] kk p3) (gTup X.K 2 (gCons (gName j) (gCons (gName l) gNil)))) (hs : ∀ y, foldedSetIterable iter X.env y = pure y := by intro _; rfl) : N X ω δ (.ListComp elt [{ target := .Tuple [.Name x p1, .Name y p2] kk p3, iter := iter, ifs := [], is_async := 0 }] scope pos) Φ :=
  n_lift (pe_lc (own := [(x, j), (y, l)]) (g := gTup X.K 2 (gCons (gName j) (gCons (gName l) gNil))) (te := fun σ H Q => BlkF X scope fun Y => WE Y elt σ H Q) hc hn (pi_list (WE.pe X iter)) hb hgt (fun _ _ _ _ _ => pts_nil) (fun s H C cl fp => ⟨fun pins s' σ' H' Q I q => q s H C cl fp pins s' I⟩) hs) fun σ H Q s q => t_lcLpO j l hjl h s q
end
end DL

namespace DL
open PySem PySem.Spec L2 PyProof.Rows
/-! ## min(an owned list of integers, key=own def, default=None): some item -/
def frzP (od : Obj) (u : HO) : OwnP := ⟨fun _ _ o => o = .frz od u, fun _ _ _ _ _ h => h⟩
section
variable {X : Cx} {pins : List (Addr × Obj)} {σ : L2.St} {j : Nat} {f : Addr} {fd : FuncData} {pa : Str} {C : Con} {key : Int → PyData} {ω : Ow} {l it S : Addr} {od : Obj} {u : HO} {vs : Array Value} {ns : List Int}
/-- what holds at each turn -/
structure MinSt (X : Cx) (pins : List (Addr × Obj)) (σ : L2.St) (key : Int → PyData) (ω : Ow) (H0 : Hp) (l it S : Addr) (od : Obj) (u : HO) (ns : List Int) (n : Nat) (vb kb : Value) (c : Nat) (H' : Hp) (s : Shared) : Prop where
  inv : Inv X pins σ H' s
  own : OwnOk X.K ((l, frzP od u) :: ω) H'
  kp : Kp (l :: dom ω) H0 (l :: dom ω) H'
  fi : FpOk X pins H' it
  fs : FpOk X pins H' S
  ih : s.heap.IsListIter it l n
  hs : s.heap.get? S = some { cls := .type "list", dict := none, data := .seq #[vb, kb] c, slots := #[] }
  bst : ∃ i t kv, i ∈ ns ∧ vb = .int i t ∧ RelV kv kb ∧ Rp X.K (hid (l :: dom ω) H') kv (key i)
theorem moved_eq {wr : List Addr} {s s' : Shared} (m : Moved wr (fun a b => b = a) s s') : s' = { s with heap := s'.heap, toks := s'.toks } := by
  obtain ⟨_, g, d, o, _⟩ := m
  cases s'; cases s
  dsimp only at g d o
  subst g; subst d; subst o
  rfl
theorem moved_inv {s s' : Shared} {H : Hp} {a : Addr} (I : Inv X pins σ H s) (m : Moved [a] (fun x y => y = x) s s') (hf : FpOk X pins H a) : Inv X pins σ H s' := by
  rw [moved_eq m]
  exact I.turnedL (ch := [a]) (fun b o hb e => m.heap b o hb e) fun b hb => by rw [List.mem_singleton.mp hb]; exact hf
theorem min_go (hsm : ∃ m, X.base.Ns sysModules m) (G : FnOk X.prog X.w X.K X.mg X.base CX0 j f fd [pa] (spD X.K C)) (hb : Binds X.K fd [pa] []) (hr : Room (j + 1) X.A) (hA : X.A.handled = none) (hu : X.A.units + 64 < cLine)
    (hkey : ∀ i ∈ ns, ∀ (ω' : Ow) (Ψ : Ow → Cell → Prop), Ψ ω' (.dat (key i)) → C [.dat (.int i)] ω' Ψ) (hal : ∀ i i', PySem.W.alike (key i) (key i') = true) (hnn : ∀ i, key i ≠ .none) (hsh : ∀ i ∈ ns, (key i).showable = true ∧ (key i).depth ≤ 20)
    (hli : ∀ h : Heap, h.get? l = some od → h.IsList l vs) (hvs : ∀ (i : Nat) (v : Value), vs[i]? = some v → ∃ (x : Int) (t : _), x ∈ ns ∧ v = Value.int x t) (hil : it ≠ l) (hSl : S ≠ l) (hSi : S ≠ it) {R : Result → Shared → Prop}
    {H0 : Hp} (kw : List (Str × Value)) (hR : ∀ (i : Int) (t : _) (H' : Hp) (s : Shared), i ∈ ns → Inv X pins σ H' s → OwnOk X.K ((l, frzP od u) :: ω) H' → Kp (l :: dom ω) H0 (l :: dom ω) H' → R (.ok (.ret (Value.int i t))) s) :
    ∀ (k n : Nat) (s : Shared) (vb kb : Value) (c : Nat) (H' : Hp), vs.size - n = k → n ≤ vs.size → MinSt X pins σ key ω H0 l it S od u ns n vb kb c H' s → codeAny (model X.prog X.w) X.A (.builtin "min.loop" ⟨[.ref it, .ref f, .ref S], kw⟩) R s := by
  have W : WalksS X.prog X.w X.A.in1 it [it, l] [it] (fun a b => b = a) vs.size (fun i v => vs[i]? = some v) (fun i s' => s'.heap.IsListIter it l i ∧ s'.heap.IsList l vs) := (Walks.list (A := X.A.in1) (by exact hA) it l hil.symm vs).toS
  have hnm : (toString "min" ++ toString ".loop" : String) = "min.loop" := by decide
  intro k
  induction k with
  | zero =>
    intro n s vb kb c H' hk hn M
    have hod : s.heap.get? l = some od := by
      obtain ⟨o, e1, e2⟩ := M.own.at_ l _ List.mem_cons_self
      have e3 : o = .frz od u := e2
      subst e3
      exact (M.inv.hok l _ e1).1
    have hnS : n = vs.size := by omega
    refine codeAny_builtin PySem.F.entry_min_loop ?_
    rw [PySem.Around.under_plainId PySem.F.plain_min_loop _]
    show wpAny (model X.prog X.w) X.A.in1 (seqItems? (.ref S) >>= _) _ _ s
    refine wpAny_bind (wpAny_seqItems M.hs rfl ?_)
    show wpAny (model X.prog X.w) X.A.in1 (tryCatch (pyNext (.ref it)) _ >>= _) _ _ s
    refine wpAny_bind (wpAny_tryCatch (W.done s _ _ ⟨hnS ▸ M.ih, hli _ hod⟩ fun s' hm => ?_))
    have hS2 := hm.heap S _ (fun z => hSi (List.mem_singleton.mp z)) M.hs
    have I2 := moved_inv M.inv hm M.fi
    show wpAny (model X.prog X.w) X.A.in1 (updateSeq S (fun _ => #[]) >>= _) _ _ _
    refine wpAny_bind ?_
    refine wpAny_updateSeq hS2 rfl (wpAny_bind (wpAny_letGo (wpAny_pure ?_)))
    obtain ⟨i, t, kv, hi, ev, _, _⟩ := M.bst
    subst ev
    exact hR i t H' _ hi (I2.turnedL (ch := [S]) (t' := s'.toks) (fun b o hb2 e => by rw [Heap.get?_update_ne _ _ _ _ (fun z => hb2 (by rw [z]; exact List.mem_cons_self))]; exact e) fun b hb2 => by rw [List.mem_singleton.mp hb2]; exact M.fs) M.own M.kp
  | succ k ih =>
    intro n s vb kb c H' hk hn M
    have hod : s.heap.get? l = some od := by
      obtain ⟨o, e1, e2⟩ := M.own.at_ l _ List.mem_cons_self
      have e3 : o = .frz od u := e2
      subst e3
      exact (M.inv.hok l _ e1).1
    have hlt : n < vs.size := by omega
    refine codeAny_builtin PySem.F.entry_min_loop ?_
    rw [PySem.Around.under_plainId PySem.F.plain_min_loop _]
    show wpAny (model X.prog X.w) X.A.in1 (seqItems? (.ref S) >>= _) _ _ s
    refine wpAny_bind (wpAny_seqItems M.hs rfl ?_)
    show wpAny (model X.prog X.w) X.A.in1 (tryCatch (pyNext (.ref it)) _ >>= _) _ _ s
    refine wpAny_bind (wpAny_tryCatch (W.item n s _ _ hlt ⟨M.ih, hli _ hod⟩ fun v s' hv hst hm => ?_))
    have hS2 := hm.heap S _ (fun z => hSi (List.mem_singleton.mp z)) M.hs
    have I2 := moved_inv M.inv hm M.fi
    obtain ⟨x, t, hx, rfl⟩ := hvs n v hv
    obtain ⟨oi, ei, ri⟩ := hst.1
    have hpin : ∀ p ∈ (it, oi) :: (S, { cls := .type "list", dict := none, data := .seq #[vb, kb] c, slots := #[] }) :: pins, s'.heap.get? p.1 = some p.2 ∧ H' p.1 = none ∧ p.1 ≠ X.env.locals ∧ p.1 ∉ X.fs ∧ ∀ v, p.2.data ≠ .cell v := fun p hp => by
      rcases List.mem_cons.mp hp with rfl | hp
      · obtain ⟨z0, z1, z2, _⟩ := M.fi
        exact ⟨ei, z0, z1, z2, fun v z => by rw [ri.2] at z; cases z⟩
      · rcases List.mem_cons.mp hp with rfl | hp
        · obtain ⟨z0, z1, z2, _⟩ := M.fs
          exact ⟨hS2, z0, z1, z2, fun _ z => by cases z⟩
        · exact I2.pin p (List.mem_append_right _ hp)
    have Ip := I2.pins_of hpin
    have sp : spD X.K C [V.int x] H' (fun kv H'' => OwnOk X.K ((l, frzP od u) :: ω) H'' ∧ Kp (l :: dom ω) H' (l :: dom ω) H'' ∧ Rp X.K (hid (l :: dom ω) H'') kv (key x)) fun _ _ _ => False :=
      ⟨(l, frzP od u) :: ω, [.dat (.int x)], fun ω2 c => ω2 = (l, frzP od u) :: ω ∧ c = .dat (key x), .cons (Rp.int _) .nil, M.own, hkey x hx _ _ ⟨rfl, rfl⟩, fun ω2 c kv H'' ⟨z1, z2⟩ o k oc => by
        subst z1; subst z2
        exact ⟨o, k, oc⟩⟩
    show wpAny (model X.prog X.w) X.A.in1 (tryCatch (holding [Value.int x t] (call (.ref f) [Value.int x t])) _ >>= _) _ _ _
    refine wpAny_bind (wpAny_tryCatch (wpAny_holding (wpAny_mono (call_ownE (Er := fun _ _ => False) G hb hr.in1 Ip.env0.in1 Ip (.cons (show RelV (V.int x) (Value.int x t) from ⟨t, rfl⟩) .nil) rfl sp) (fun kx s3 he => ?_) fun _ _ hF => hF.elim)))
    obtain ⟨kv, H3, Iq, ru, own3, kp3, rp3⟩ := he
    have pI := Iq.pin (it, oi) (List.mem_append_right _ List.mem_cons_self)
    have pS := Iq.pin (S, { cls := .type "list", dict := none, data := .seq #[vb, kb] c, slots := #[] }) (List.mem_append_right _ (List.mem_cons_of_mem _ List.mem_cons_self))
    have I3 := Iq.pins_of (pins' := pins) fun p hp => Iq.pin p (List.mem_append_right _ (List.mem_cons_of_mem _ (List.mem_cons_of_mem _ hp)))
    have fi3 : FpOk X pins H3 it := ⟨pI.2.1, M.fi.2⟩
    have fs3 : FpOk X pins H3 S := ⟨pS.2.1, M.fs.2⟩
    have ih3 : s3.heap.IsListIter it l (n + 1) := ⟨oi, pI.1, ri⟩
    obtain ⟨bi, bt, bkv, hbi, evb, rkb, rpb⟩ := M.bst
    have rpb3 := rpb.mono kp3
    obtain ⟨as1, rd1, _⟩ := rp_read1 I3 hsm (hsh x hx).1 (rp3.mono hid_same) ru
    obtain ⟨as2, rd2, _⟩ := rp_read1 I3 hsm (hsh bi hbi).1 (rpb3.mono hid_same) rkb
    show wpAny (model X.prog X.w) X.A.in1 (tryCatch (holding [Value.int x t, kx] (richCompare .Lt kx kb >>= _)) _ >>= _) _ _ _
    refine wpAny_bind (wpAny_tryCatch (wpAny_holding (wpAny_bind (PySem.W.rcLt_alike _ _ X.A.in1 s3 kx kb as1 as2 rd1 rd2 (hal x bi) (hnn x) ?_ X.prog X.w _ _ ?_))))
    · have h20 := (hsh x hx).2
      have hm := Nat.min_le_left (key x).depth (key bi).depth
      show X.A.units + 1 + _ < _
      omega
    refine wpAny_bind (wpAny_holding (wpAny_truthy_bool ?_))
    refine wpAny_bind (wpAny_letGo (wpAny_pure ?_))
    cases hcmp : PySem.W.dataLt (key x) (key bi) with
    | true =>
      simp only [if_true]
      refine wpAny_bind ?_
      refine wpAny_updateSeq pS.1 rfl (wpAny_bind (wpAny_letGo ?_))
      rw [hnm]
      obtain ⟨c2, hc2⟩ : ∃ n2, (s3.heap.update S (Obj.mapSeq fun _ => #[Value.int x t, kx])).get? S = some (seqObj "list" #[Value.int x t, kx] n2) := ⟨_, get?_update_seq pS.1 fun _ => #[Value.int x t, kx]⟩
      refine wpAny_pure ⟨plainId_quiet PySem.F.plain_min_loop _, ih (n + 1) _ _ kx c2 H3 (by omega) hlt ⟨I3.turnedL (ch := [S]) (t' := s3.toks) (fun b o hb2 e => by rw [Heap.get?_update_ne _ _ _ _ (fun z => hb2 (by rw [z]; exact List.mem_cons_self))]; exact e) (fun b hb2 => by rw [List.mem_singleton.mp hb2]; exact fs3), own3, M.kp.trans kp3, fi3, fs3, ⟨oi, by rw [Heap.get?_update_ne _ _ _ _ (fun z => hSi z.symm)]; exact pI.1, ri⟩, hc2, ⟨x, t, kv, hx, rfl, ru, rp3⟩⟩⟩
    | false =>
      simp only [Bool.false_eq_true, if_false]
      refine wpAny_bind (wpAny_letGo ?_)
      rw [hnm]
      exact wpAny_pure ⟨plainId_quiet PySem.F.plain_min_loop _, ih (n + 1) s3 vb kb c H3 (by omega) hlt ⟨I3, own3, M.kp.trans kp3, fi3, fs3, ih3, pS.1, ⟨bi, bt, bkv, hbi, evb, rkb, rpb3⟩⟩⟩
theorem min_first (hsm : ∃ m, X.base.Ns sysModules m) (G : FnOk X.prog X.w X.K X.mg X.base CX0 j f fd [pa] (spD X.K C)) (hb : Binds X.K fd [pa] []) (hr : Room (j + 1) X.A) (hA : X.A.handled = none) (hu : X.A.units + 64 < cLine)
    (hkey : ∀ i ∈ ns, ∀ (ω' : Ow) (Ψ : Ow → Cell → Prop), Ψ ω' (.dat (key i)) → C [.dat (.int i)] ω' Ψ) (hal : ∀ i i', PySem.W.alike (key i) (key i') = true) (hnn : ∀ i, key i ≠ .none) (hsh : ∀ i ∈ ns, (key i).showable = true ∧ (key i).depth ≤ 20)
    (hli : ∀ h : Heap, h.get? l = some od → h.IsList l vs) (hvs : ∀ (i : Nat) (v : Value), vs[i]? = some v → ∃ (x : Int) (t : _), x ∈ ns ∧ v = Value.int x t) (hil : it ≠ l) (hSl : S ≠ l) (hSi : S ≠ it) {R : Result → Shared → Prop}
    {H0 : Hp} (kw : List (Str × Value)) (hR : ∀ (i : Int) (t : _) (H' : Hp) (s : Shared), i ∈ ns → Inv X pins σ H' s → OwnOk X.K ((l, frzP od u) :: ω) H' → Kp (l :: dom ω) H0 (l :: dom ω) H' → R (.ok (.ret (Value.int i t))) s)
    (hn : 0 < vs.size) {s : Shared} {c : Nat} {H' : Hp} (I0 : Inv X pins σ H' s) (ow : OwnOk X.K ((l, frzP od u) :: ω) H') (kp : Kp (l :: dom ω) H0 (l :: dom ω) H') (fi : FpOk X pins H' it) (fs : FpOk X pins H' S) (ih : s.heap.IsListIter it l 0)
    (hs : s.heap.get? S = some { cls := .type "list", dict := none, data := .seq #[] c, slots := #[] }) : codeAny (model X.prog X.w) X.A (.builtin "min.loop" ⟨[.ref it, .ref f, .ref S], kw⟩) R s := by
  have W : WalksS X.prog X.w X.A.in1 it [it, l] [it] (fun a b => b = a) vs.size (fun i v => vs[i]? = some v) (fun i s' => s'.heap.IsListIter it l i ∧ s'.heap.IsList l vs) := (Walks.list (A := X.A.in1) (by exact hA) it l hil.symm vs).toS
  have hnm : (toString "min" ++ toString ".loop" : String) = "min.loop" := by decide
  have hod : s.heap.get? l = some od := by
    obtain ⟨o, e1, e2⟩ := ow.at_ l _ List.mem_cons_self
    have e3 : o = .frz od u := e2
    subst e3
    exact (I0.hok l _ e1).1
  refine codeAny_builtin PySem.F.entry_min_loop ?_
  rw [PySem.Around.under_plainId PySem.F.plain_min_loop _]
  show wpAny (model X.prog X.w) X.A.in1 (seqItems? (.ref S) >>= _) _ _ s
  refine wpAny_bind (wpAny_seqItems hs rfl ?_)
  show wpAny (model X.prog X.w) X.A.in1 (tryCatch (pyNext (.ref it)) _ >>= _) _ _ s
  refine wpAny_bind (wpAny_tryCatch (W.item 0 s _ _ hn ⟨ih, hli _ hod⟩ fun v s' hv hst hm => ?_))
  have hS2 := hm.heap S _ (fun z => hSi (List.mem_singleton.mp z)) hs
  have I2 := moved_inv I0 hm fi
  obtain ⟨x, t, hx, rfl⟩ := hvs 0 v hv
  obtain ⟨oi, ei, ri⟩ := hst.1
  have hpin : ∀ p ∈ (it, oi) :: (S, { cls := .type "list", dict := none, data := .seq #[] c, slots := #[] }) :: pins, s'.heap.get? p.1 = some p.2 ∧ H' p.1 = none ∧ p.1 ≠ X.env.locals ∧ p.1 ∉ X.fs ∧ ∀ v, p.2.data ≠ .cell v := fun p hp => by
    rcases List.mem_cons.mp hp with rfl | hp
    · obtain ⟨z0, z1, z2, _⟩ := fi
      exact ⟨ei, z0, z1, z2, fun v z => by rw [ri.2] at z; cases z⟩
    · rcases List.mem_cons.mp hp with rfl | hp
      · obtain ⟨z0, z1, z2, _⟩ := fs
        exact ⟨hS2, z0, z1, z2, fun _ z => by cases z⟩
      · exact I2.pin p (List.mem_append_right _ hp)
  have Ip := I2.pins_of hpin
  have sp : spD X.K C [V.int x] H' (fun kv H'' => OwnOk X.K ((l, frzP od u) :: ω) H'' ∧ Kp (l :: dom ω) H' (l :: dom ω) H'' ∧ Rp X.K (hid (l :: dom ω) H'') kv (key x)) fun _ _ _ => False :=
    ⟨(l, frzP od u) :: ω, [.dat (.int x)], fun ω2 c => ω2 = (l, frzP od u) :: ω ∧ c = .dat (key x), .cons (Rp.int _) .nil, ow, hkey x hx _ _ ⟨rfl, rfl⟩, fun ω2 c kv H'' ⟨z1, z2⟩ o k oc => by
      subst z1; subst z2
      exact ⟨o, k, oc⟩⟩
  show wpAny (model X.prog X.w) X.A.in1 (tryCatch (holding [Value.int x t] (call (.ref f) [Value.int x t])) _ >>= _) _ _ _
  refine wpAny_bind (wpAny_tryCatch (wpAny_holding (wpAny_mono (call_ownE (Er := fun _ _ => False) G hb hr.in1 Ip.env0.in1 Ip (.cons (show RelV (V.int x) (Value.int x t) from ⟨t, rfl⟩) .nil) rfl sp) (fun kx s3 he => ?_) fun _ _ hF => hF.elim)))
  obtain ⟨kv, H3, Iq, ru, own3, kp3, rp3⟩ := he
  have pI := Iq.pin (it, oi) (List.mem_append_right _ List.mem_cons_self)
  have pS := Iq.pin (S, { cls := .type "list", dict := none, data := .seq #[] c, slots := #[] }) (List.mem_append_right _ (List.mem_cons_of_mem _ List.mem_cons_self))
  have I3 := Iq.pins_of (pins' := pins) fun p hp => Iq.pin p (List.mem_append_right _ (List.mem_cons_of_mem _ (List.mem_cons_of_mem _ hp)))
  have fi3 : FpOk X pins H3 it := ⟨pI.2.1, fi.2⟩
  have fs3 : FpOk X pins H3 S := ⟨pS.2.1, fs.2⟩
  show wpAny (model X.prog X.w) X.A.in1 (updateSeq S (fun _ => #[Value.int x t, kx]) >>= _) _ _ _
  refine wpAny_bind ?_
  refine wpAny_updateSeq pS.1 rfl ?_
  rw [hnm]
  obtain ⟨c2, hc2⟩ : ∃ n2, (s3.heap.update S (Obj.mapSeq fun _ => #[Value.int x t, kx])).get? S = some (seqObj "list" #[Value.int x t, kx] n2) := ⟨_, get?_update_seq pS.1 fun _ => #[Value.int x t, kx]⟩
  refine wpAny_pure ⟨plainId_quiet PySem.F.plain_min_loop _, min_go hsm G hb hr hA hu hkey hal hnn hsh hli hvs hil hSl hSi kw hR _ 1 _ _ kx c2 H3 rfl hn ⟨I3.turnedL (ch := [S]) (t' := s3.toks) (fun b o hb2 e => by rw [Heap.get?_update_ne _ _ _ _ (fun z => hb2 (by rw [z]; exact List.mem_cons_self))]; exact e) (fun b hb2 => by rw [List.mem_singleton.mp hb2]; exact fs3), own3, kp.trans kp3, fi3, fs3, ⟨oi, by rw [Heap.get?_update_ne _ _ _ _ (fun z => hSi z.symm)]; exact pI.1, ri⟩, hc2, ⟨x, t, kv, hx, rfl, ru, rp3⟩⟩⟩
def rMinKD (K : PySem.W.Frag) (C : Con) (key : Int → PyData) (f : Addr) : List V → List V → Hp → VK → Prop := fun vs zs H Q => ∃ (ω : Ow) (l : Addr) (ns : List Int), vs = [V.ref l] ∧ zs = [V.ref f, V.non] ∧ OwnOk K ((l, lstP (ns.map .int)) :: ω) H ∧
  (∀ i ∈ ns, ∀ (ω' : Ow) (Ψ : Ow → Cell → Prop), Ψ ω' (.dat (key i)) → C [.dat (.int i)] ω' Ψ) ∧ (∀ i ∈ ns, (key i).showable = true ∧ (key i).depth ≤ 20) ∧
  (ns = [] → ∀ H', OwnOk K ω H' → Kp (l :: dom ω) H (dom ω) H' → Q .non H') ∧ ∀ i ∈ ns, ∀ H', OwnOk K ω H' → Kp (l :: dom ω) H (dom ω) H' → Q (.int i) H'
theorem rpa_ints2 {K : PySem.W.Frag} {H : Hp} : ∀ ns : List Int, RpA K H (ns.map V.int) (ns.map PyData.int)
  | [] => .nil
  | i :: ns => .cons (Rp.int i) (rpa_ints2 ns)
theorem vals_ints : ∀ {ns : List Int} {its : List Value}, Vals (ns.map V.int) its → ∀ v ∈ its, ∃ (x : Int) (t : _), x ∈ ns ∧ v = Value.int x t
  | [], _, .nil, v, hv => by cases hv
  | i :: ns, _, .cons a r, v, hv => by
    rcases List.mem_cons.mp hv with rfl | hv
    · obtain ⟨t, ht⟩ := a
      exact ⟨i, t, List.mem_cons_self, ht⟩
    · obtain ⟨x, t, h1, h2⟩ := vals_ints r v hv
      exact ⟨x, t, List.mem_cons_of_mem _ h1, h2⟩
theorem cr_minKD (hc : X.calm = true) (hsm : ∃ m, X.base.Ns sysModules m) (G : FnOk X.prog X.w X.K X.mg X.base CX0 j f fd [pa] (spD X.K C)) (hb : Binds X.K fd [pa] []) (hr : Room (j + 1) X.A) (hu : X.A.units + 64 < cLine)
    (hal : ∀ i i', PySem.W.alike (key i) (key i') = true) (hnn : ∀ i, key i ≠ .none) : CallRK X (.builtin "min") [Str.ofString "key", Str.ofString "default"] (rMinKD X.K C key f) := by
  intro pins s σ H vs zs us ws Q I r rz h
  obtain ⟨ω, l, ns, rfl, rfl, own, hkey, hsh, q0, q⟩ := h
  obtain rfl := Vals.ref1 r
  obtain ⟨w1, w2, rfl, ew1, ew2⟩ : ∃ w1 w2, ws = [w1, w2] ∧ RelV (V.ref f) w1 ∧ RelV V.non w2 := by
    cases rz with
    | cons a b =>
      cases b with
      | cons b c => cases c; exact ⟨_, _, rfl, a, b⟩
  obtain rfl : w1 = Value.ref f := ew1
  obtain rfl : w2 = Value.none := ew2
  obtain ⟨o, m1, xs, rfl, m2⟩ := own.at_ l _ List.mem_cons_self
  obtain rfl := m2.is
  obtain ⟨its, rv, pl, hz⟩ := I.list (SqL.of m1)
  obtain ⟨od, IL⟩ := I.lock m1 trivial
  have hA : X.A.handled = none := I.ok.hd hc
  have hod : s.heap.get? l = some od := (IL.hok l _ upd_same).1
  have hli : ∀ h : Heap, h.get? l = some od → h.IsList l its.toArray := by
    obtain ⟨o', e', r'⟩ := pl.isList
    rw [hod] at e'
    cases e'
    exact fun h e => ⟨_, e, r'⟩
  have hvs : ∀ (i : Nat) (v : Value), its.toArray[i]? = some v → ∃ (x : Int) (t : _), x ∈ ns ∧ v = Value.int x t := fun i v hv => vals_ints rv v (by rw [List.getElem?_toArray] at hv; exact List.mem_of_getElem? hv)
  have own0 : OwnOk X.K ((l, frzP od (.lst (ns.map V.int))) :: ω) (upd H l (.frz od (.lst (ns.map V.int)))) := own.put (i := 0) (p := l) (P := lstP (ns.map .int)) (P' := frzP od (.lst (ns.map V.int))) rfl rfl
  have kp0 : Kp (l :: dom ω) H (l :: dom ω) (upd H l (.frz od (.lst (ns.map V.int)))) := kp_upd List.mem_cons_self
  have nfz := I.nofrz m1 trivial
  have fin : ∀ {v : V} {w : Value} {H' : Hp} {s' : Shared}, RelV v w → Inv X pins σ H' s' → OwnOk X.K ((l, frzP od (.lst (ns.map V.int))) :: ω) H' → Kp (l :: dom ω) (upd H l (.frz od (.lst (ns.map V.int)))) (l :: dom ω) H' → (∀ H'', OwnOk X.K ω H'' → Kp (l :: dom ω) H (dom ω) H'' → Q v H'') → EP X pins σ Q w s' := fun {v w H' s'} rvw I' o' k' q' => by
    obtain ⟨oo, e1, e2⟩ := o'.at_ l _ List.mem_cons_self
    have e3 : oo = .frz od (.lst (ns.map V.int)) := e2
    subst e3
    have Iu := I'.unlock e1 nfz
    have ou : OwnOk X.K ((l, lstP (ns.map .int)) :: ω) (upd H' l (.lst (ns.map V.int))) := o'.put (i := 0) (p := l) (P := frzP od (.lst (ns.map V.int))) (P' := lstP (ns.map .int)) rfl ⟨_, rfl, rpa_ints2 ns⟩
    exact ⟨v, _, Iu, rvw, q' _ ou.drop ((kp0.trans (k'.trans (kp_upd List.mem_cons_self))).trans (kp_drop (P := lstP (ns.map .int))))⟩
  have hnm : (toString "min" ++ toString ".loop" : String) = "min.loop" := by decide
  refine PyProof.Rows.kmk_tree PySem.F.kind_min PySem.F.plain_min PySem.F.entry_min (args_min_key_default _ _ _) ?_
  show wpAny (model X.prog X.w) X.A.in1 (Builtin.Builtins.bindParams "min" ["key", "default"] 0 ⟨[], [(Str.ofString "key", .ref f), (Str.ofString "default", .none)]⟩ >>= _) _ _ s
  refine wpAny_bind (wpAny_of_eq (show Builtin.Builtins.bindParams "min" ["key", "default"] 0 ⟨[], [(Str.ofString "key", .ref f), (Str.ofString "default", Value.none)]⟩ = pure [some (.ref f), some .none] from rfl) ?_)
  refine wpAny_bind (wpAny_pure ?_)
  refine wpAny_bind (PySem.W.iter_listW (A := X.A.in1) hA (hli _ hod) fun s2 es W st hfp _ hk => ?_)
  refine wpAny_bind (wpAny_newObj_type ?_)
  rw [hnm]
  have hsz : s2.heap.objs.size = s.heap.objs.size + 1 := by rw [es]; exact size_push' ..
  have I2 : Inv X pins σ (upd H l (.frz od (.lst (ns.map V.int)))) s2 := by
    rw [es] at hk ⊢
    exact IL.kept (t' := s.toks) hk
  have hlt : l < s.heap.objs.size := Heap.lt_size hod
  have fi : FpOk X pins (upd H l (.frz od (.lst (ns.map V.int)))) s.heap.objs.size := IL.fpOk (Nat.le_refl _) (IL.hok.fresh (Nat.le_refl _))
  have fS : FpOk X pins (upd H l (.frz od (.lst (ns.map V.int)))) s2.heap.objs.size := IL.fpOk (by omega) (IL.hok.fresh (by omega))
  have hSf : s2.heap.objs.size ∉ [s.heap.objs.size, l] := fun hm => Nat.lt_irrefl _ (hfp _ hm)
  have I3 := I2.kept (t' := s2.toks) (h' := s2.heap.push { cls := .type "list", data := .seq #[] 0 }) fun b u e => Heap.get?_push_of_some _ e
  have st3 := W.frame 0 s2 (s2.heap.push { cls := .type "list", data := .seq #[] 0 }) s2.toks st (Nat.le_refl _) fun b _ o e => Heap.get?_push_of_some _ e
  refine wpAny_pure ⟨plainId_quiet PySem.F.plain_min_loop _, ?_⟩
  rcases Nat.eq_zero_or_pos its.toArray.size with hn | hn
  · have hns : ns = [] := by
      have h1 := rv.length
      rw [List.length_map] at h1
      have h2 : its.length = 0 := by rw [List.size_toArray] at hn; exact hn
      exact List.length_eq_zero_iff.mp (by omega)
    have W0 : WalksS X.prog X.w X.A.in1 s.heap.objs.size [s.heap.objs.size, l] [s.heap.objs.size] (fun a b => b = a) 0 (fun i v => its.toArray[i]? = some v) (fun i s' => s'.heap.IsListIter s.heap.objs.size l i ∧ s'.heap.IsList l its.toArray) := by rw [← hn]; exact W
    refine codeAny_min_loop_dflt (S := s2.heap.objs.size) W0 hSf st3 (Heap.get?_push_size _ rfl) fun s' hm => ?_
    exact fin (v := .non) rfl (moved_inv I3 hm fi) own0 (Kp.refl _ _) (q0 hns)
  · exact min_first hsm G hb hr hA hu hkey hal hnn hsh hli hvs (it := s.heap.objs.size) (S := s2.heap.objs.size) (show s.heap.objs.size ≠ l from Nat.ne_of_gt hlt) (show s2.heap.objs.size ≠ l from Nat.ne_of_gt (by rw [hsz]; exact Nat.lt_succ_of_lt hlt)) (show s2.heap.objs.size ≠ s.heap.objs.size from Nat.ne_of_gt (by rw [hsz]; exact Nat.lt_succ_self _)) _ (fun i t H' s' hi I' o' k' => fin (v := .int i) ⟨t, rfl⟩ I' o' k' (q i hi)) hn I3 own0 (Kp.refl _ _) fi fS st3.1 (Heap.get?_push_size _ rfl)
end
section
variable {X : Cx} {ω : Ow} {δ : DL.Env} {a : Expr} {Φ : Ow → Cell → Prop} {pos p1 p2 p3 p4 p5 : Pos} {kf pa : Str} {C : Con} {j k jj : Nat}
theorem n_minKD (key : Int → PyData) (hc : X.calm = true) (hsm : ∃ m, X.base.Ns sysModules m) (R : Rdy X.prog X.w X.K X.mg X.base j kf [pa] C) (hr : Room k X.A) (hm : X.mg "min" = none)
    (hal : ∀ i i', PySem.W.alike (key i) (key i') = true) (hnn : ∀ i, key i ≠ .none)
    (h : N X ω δ a fun ω1 c => ∃ l ns ω2, ω1 = (l, lstP (ns.map .int)) :: ω2 ∧ c = .raw (.ref l) ∧ (∀ i ∈ ns, ∀ (ω' : Ow) (Ψ : Ow → Cell → Prop), Ψ ω' (.dat (key i)) → C [.dat (.int i)] ω' Ψ) ∧ (∀ i ∈ ns, (key i).showable = true ∧ (key i).depth ≤ 20) ∧ (ns = [] → Φ ω2 (.dat .none)) ∧ ∀ i ∈ ns, Φ ω2 (.dat (.int i))) (hjk : j + 1 ≤ k := by decide)
    (hg : Gl X "min" := by rfl) (hgk : Gl X kf := by rfl) (hdb : (kf == ("__debug__" : Str)) = false := by decide)
    (ha : starEach [a] X.env = (false, eval a X.env) :: starEach [] X.env := by rfl)
    (he : backTo pos (starEach [a] X.env) = (false, eval a X.env) :: backTo pos (starEach [] X.env) := by rfl) (hpl : (backTo pos (starEach [a] X.env)).any (·.1) = false := by rfl)
    (hall : (backToKw pos (keywordEach [⟨some (Str.ofString "key"), .Name kf p2, p3⟩, ⟨some (Str.ofString "default"), .Constant .none jj p4, p5⟩] X.env)).all (·.1.isSome) = true := by rfl) (hnone : (backToKw pos (keywordEach [⟨some (Str.ofString "key"), .Name kf p2, p3⟩, ⟨some (Str.ofString "default"), .Constant .none jj p4, p5⟩] X.env)).any (·.1.isNone) = false := by rfl) (hks : (backToKw pos (keywordEach [⟨some (Str.ofString "key"), .Name kf p2, p3⟩, ⟨some (Str.ofString "default"), .Constant .none jj p4, p5⟩] X.env)).filterMap (·.1) = [Str.ofString "key", Str.ofString "default"] := by rfl) :
    N X ω δ (.Call (.Name "min" p1) [a] [⟨some (Str.ofString "key"), .Name kf p2, p3⟩, ⟨some (Str.ofString "default"), .Constant .none jj p4, p5⟩] pos) Φ := by
  obtain ⟨f, fd, G, hmf, hk, hb⟩ := R.ex
  have hu := room_u64 hr
  refine n_lift (pe_callBK (cr_minKD hc hsm G hb (hr.mono hjk) hu hal hnn (key := key)) hg hm (by decide +kernel) (pa_cons (WE.pe X a) pa_nil ha) (pk_cons (pe_glob (v := .ref f) hgk hmf rfl hdb) (pk_cons pe_non pk_nil)) (he := he) (hpl := hpl) (hall := hall) (hnone := hnone) (hks := hks)) fun σ H Q s q => h σ H _ s fun ω1 c v H1 ⟨l, ns, ω2, e1, e2, hkey, hsh, f0, f1⟩ s1 k1 o1 => ?_
  subst e1; subst e2
  cases o1
  exact ⟨ω2, l, ns, rfl, rfl, s1.own, hkey, hsh, fun hn H' o kp => q ω2 _ _ H' (f0 hn) ⟨s1.env.mono kp, o⟩ (k1.trans kp) Rp.non, fun i hi H' o kp => q ω2 _ _ H' (f1 i hi) ⟨s1.env.mono kp, o⟩ (k1.trans kp) (Rp.int _)⟩
end
end DL

namespace DL
open PySem PySem.Spec L2 RZ
section
variable {X : Cx} {a e : Expr} {Φ : Ow → Cell → Prop} {pos p1 p2 p3 : Pos} {cx x y z : Str} {j k : Nat} {C : Con}
theorem call_lenI (R : RdM X.prog X.w X.K X.mg X.base j cx "__len__" ["self"] C) (hr : Room k X.A) (hjk : j + 1 ≤ k) : CallR X (.builtin "len") (fun xs H Q => ∃ a dx vs, xs = [.ref a] ∧ H a = some (.ins (clsA X.mg cx) dx vs) ∧ spD X.K C [.ref a] H (fun v H2 => ∃ n : Int, v = .int n ∧ 0 ≤ n ∧ n < 2 ^ 63 ∧ Q v H2) fun _ _ _ => False) := by
  obtain ⟨f, fd, G, hm, hb⟩ := R.ex
  rintro pins s σ H xs us Q I rv ⟨a, dx, vs, rfl, e1, sp⟩
  obtain ⟨u, rfl, ru⟩ := vals1 rv
  obtain rfl : u = .ref a := ru
  obtain ⟨mA, O, r, _, _, _⟩ := ins_get I.hok e1
  obtain ⟨od, J, _⟩ := O.look
  obtain ⟨mm, fr⟩ := I.fr
  refine PySem.W.len_K (h₀ := X.base) fr I.ok.mod.kin J hm.at_ hm.fn ?_
  have hl : ([Value.ref a] ++ []).length = (["self"] : List Str).length := rfl
  have hbs := hb s [.ref a] I.kIn hl
  rw [List.append_nil] at hbs
  refine wpAny_call (codeAny_mono (G.run X.A.in1 X.stack s H ⟨[.ref a], []⟩ [.ref a] [.ref a] _ _ (hr.mono hjk).in1 I.env0.in1 hbs (.cons rfl .nil) sp) fun r s' hq => ?_)
  cases r with
  | error er => exact hq.elim
  | ok fl =>
    cases fl with
    | ret u =>
      obtain ⟨v, H', I', rl, n, en, n0, n1, q⟩ := I.after hq
      subst en
      obtain ⟨t, rfl⟩ := rl
      exact ⟨⟨n0, n1⟩, .int n, H', I'.tok _, ⟨_, rfl⟩, q⟩
    | next => exact hq.elim
    | brk => exact hq.elim
    | cont => exact hq.elim

end
section
variable {X : Cx} {ω : Ow} {δ : Env} {Ψ : ExP} {a e : Expr} {es : List Expr} {Φ : Ow → Cell → Prop} {pos p1 : Pos} {cx x : Str} {j k : Nat} {C : Con}
/-- len(o), o an own instance, got by what may raise -/
theorem nx_lenI (hm0 : X.mg "len" = none) (R : RdM X.prog X.w X.K X.mg X.base j cx "__len__" ["self"] C) (hr : Room k X.A) (h : NX X ω δ a (fun ω1 c => ∃ fs, c = .dat (insD (clsA X.mg cx) fs) ∧ C [.dat (insD (clsA X.mg cx) fs)] ω1 fun ω2 c2 => ∃ n : Int, c2 = .dat (.int n) ∧ 0 ≤ n ∧ n < 2 ^ 63 ∧ Φ ω2 c2) Ψ)
    (hjk : j + 1 ≤ k := by decide) (hg : Gl X "len" := by rfl) (he : starEach [a] X.env = (false, eval a X.env) :: starEach [] X.env := by rfl) : NX X ω δ (.Call (.Name "len" p1) [a] [] pos) Φ Ψ := fun σ H Q s t q => by
  refine WE.of (pe_callB (call_lenI R hr hjk) hg hm0 (by decide +kernel) (pa_cons (WE.pe X a) pa_nil he) (by decide) (by decide) he (by rfl)) (h σ H _ s t fun ω1 c v H1 ⟨fs, ec, f1⟩ s1 k1 o1 => ?_)
  subst ec
  obtain ⟨ad, dx, vs, ev, h1, h2, h3⟩ := ins_of o1
  subst ev
  exact ⟨ad, dx, vs, rfl, (hid_some h1).2, ω1, _, _, .cons o1 .nil, s1.own, f1, fun ω3 c v H3 ⟨n, ec, n0, n1, f3⟩ s3 k3 o3 => by
    subst ec
    cases int_of o3
    exact ⟨n, rfl, n0, n1, q ω3 _ _ H3 f3 ⟨s1.env.mono k3, s3⟩ (k1.trans k3) (Rp.int _)⟩⟩
end
section
variable {X : Cx} {CX : CXT} {k : Nat} {f C : Addr} {fd : FuncData} {ps : List Str} {sp : Sp} {E : St → XK} {pins : List (Addr × Obj)} {σ : St} {H : Hp} {s : Shared} {Q : VK} {us : List Value} {vs : List V}
/-- a class is called, its __init__ may raise -/
theorem run_makeS (M : Mk X.K C f) (F : FnOk X.prog X.w X.K X.mg X.base CX k f fd ps sp) (hr : Room (k + 1) X.A) (hb : Binds X.K fd ps []) (hx : PassesAt CX X σ (E σ)) (I : Inv X pins σ H s) (r : Vals vs us)
    (h : ∀ p dx, H p = none → H dx = none → dx ≠ p → sp (.ref p :: vs) (upd (upd H dx (.own p)) p (.ins C dx [])) (fun v H2 => v = .non ∧ Q (.ref p) H2) (E σ)) : wpAny (model X.prog X.w) X.A (call (.ref C) us) (EP X pins σ Q) X.xe s := by
  have g := h (s.heap.objs.size + 1) s.heap.objs.size (I.hok.fresh (Nat.le_succ _)) (I.hok.fresh (Nat.le_refl _)) (Nat.ne_of_lt (Nat.lt_succ_self _))
  have J := Inv.made (C := C) I
  have rr : Vals (V.ref (s.heap.objs.size + 1) :: vs) (Value.ref (s.heap.objs.size + 1) :: us) := .cons rfl r
  have ln : (Value.ref (s.heap.objs.size + 1) :: us ++ []).length = ps.length := by
    have e := rr.length
    rw [F.len _ _ _ _ g] at e
    rw [List.append_nil]
    exact e.symm
  have bb := hb _ (Value.ref (s.heap.objs.size + 1) :: us) J.kIn ln
  rw [List.append_nil] at bb
  refine wpAny_call (make_map (f := f) I.kIn M.makes M.init (beq_iff_eq.mp M.fn) (codeAny_mono (F.run _ X.stack _ _ ⟨Value.ref (s.heap.objs.size + 1) :: us, []⟩ (Value.ref (s.heap.objs.size + 1) :: us) _ _ (E σ) (hr.make C us []) (J.env0.make C us []) bb rr g) fun q s' w => ?_))
  cases q with
  | error e => exact hx pins _ _ e s' J w
  | ok fl =>
    cases fl with
    | ret u =>
      obtain ⟨v, H', J3, rv, ev, q3⟩ := J.after w
      subst ev
      exact ⟨rv, ⟨V.ref (s.heap.objs.size + 1), H', J3, rfl, q3⟩⟩
    | next => exact w.elim
    | brk => exact w.elim
    | cont => exact w.elim
end
section
variable {X : Cx} {ω : Ow} {δ : Env} {Ψ : ExP} {e : Expr} {es : List Expr} {Φ : Ow → Cell → Prop} {pos p1 : Pos} {x : Str} {j k : Nat} {ps : List Str} {C : ConX}
theorem nx_make (HC : HasC X.K X.mg x) (R : RdMX X.prog X.w X.K X.mg X.base j x "__init__" ps C) (hr : Room k X.A)
    (h : NA X ω δ (e :: es) fun ω1 cs => ∀ p, C (.raw (.ref p) :: cs) ((p, insP (clsA X.mg x) []) :: ω1) (fun ω' c => c = .dat .none ∧ ∃ fs ω2, ω' = (p, insP (clsA X.mg x) fs) :: ω2 ∧ Φ ω2 (.dat (insD (clsA X.mg x) fs))) fun ω' A dd => Ψ ω' δ A dd)
    (hjk : j + 1 ≤ k := by decide) (hg : Gl X x := by rfl) (hdb : (x == ("__debug__" : Str)) = false := by decide) (he : starEach (e :: es) X.env = (false, eval e X.env) :: starEach es X.env := by rfl) (hpl : (backTo pos (starEach es X.env)).any (·.1) = false := by rfl) : NX X ω δ (.Call (.Name x p1) (e :: es) [] pos) Φ Ψ := by
  obtain ⟨fI, fd, G, hm, hb⟩ := R.ex
  have M : Mk X.K (clsA X.mg x) fI := ⟨HC.makes, hm.at_, hm.fn, HC.kp⟩
  intro σ H Q s t q pins s0 I
  refine (WE.of (X := X) (σ := σ) (H := H) (t := fun σ H Q => WA X (e :: es) σ H fun ws H2 => ∃ W : WX, Takes X W ∧ ∀ p dx, H2 p = none → H2 dx = none → dx ≠ p → spDX X.K C (.ref p :: ws) (upd (upd H2 dx (.own p)) p (.ins (clsA X.mg x) dx [])) (fun v H3 => v = .non ∧ Q (.ref p) H3) (L2.WE W σ)) ?_ ?_) pins s0 I
  · refine ⟨fun pins s σ H Q I h1 => ?_⟩
    refine wpAny_Call_Name_kw (ld_glob I hg HC.at_ ?_ hdb)
    refine PySem.W.callWith_K (h₀ := X.base) I.ok.mod.kin HC.kp (thn (h1 pos pins s I) fun us s2 ⟨ws, H2, I2, r, W, tW, q2⟩ => ⟨I2.kIn, ?_⟩) he hpl
    exact run_makeS (E := L2.WE W) M G (hr.mono hjk) hb (passAt tW σ) I2 r q2
  · refine h σ H _ s fun ω1 cs vs H1 f1 s1 k1 o1 => ⟨_, t.after k1, fun p dx hp hdx hne => ?_⟩
    have s2 := s1.new (o := .own p) hdx
    have hp2 : (upd H1 dx (.own p)) p = none := by rw [upd_ne (fun z => hne z.symm)]; exact hp
    have kk := kp_new (o := .own p) s1.own hdx
    have ho : (insP (clsA X.mg x) []).ok X.K (hid (dom ω1) (upd H1 dx (.own p))) (.ins (clsA X.mg x) dx []) := ⟨dx, [], rfl, .nil⟩
    obtain ⟨w3, k3⟩ := s2.own.cons hp2 ho
    refine ⟨_, .raw (.ref p) :: cs, _, _, .cons rfl (o1.mono (kk.trans k3)), w3, f1 p, fun ω' c v H2 ⟨ec, fs, ω2, eω, f2⟩ w2 k2 o2 => ?_, fun ω' A dd H2 f2 w2 k2 => ?_⟩
    · subst ec; subst eω
      cases o2
      have kt := ((kk.trans k3).trans k2).trans (kp_drop (P := insP (clsA X.mg x) fs))
      exact ⟨rfl, q ω2 _ _ H2 f2 ⟨s1.env.mono kt, w2.drop⟩ (k1.trans kt) (own_ins HC.ok w2)⟩
    · have kt := (kk.trans k3).trans k2
      exact ⟨ω', δ, A, dd, rfl, rfl, f2, ⟨s1.env.mono kt, w2⟩, kt⟩
end
section
variable {X : Cx} {ω : Ow} {δ : Env} {Ψ : ExP} {e a b c : Expr} {st : Stmt} {body : List Stmt} {E : En} {Φ : Ow → Cell → Prop} {pos p1 p2 p3 p4 p5 : Pos} {x y : Str} {kk : Nat}
theorem sx_forEn (j l : Nat) (hp : PassesOwn (model X.prog X.w) X.A X.env X.xe) (hc : X.calm = true) (hn : X.N.Nodup) (hm : X.mg "enumerate" = none)
    (h : N X ω δ a fun ω1 c => ∃ ds, c = .dat (.list ds) ∧ ∃ I : Nat → Ow → Env → Prop, I 0 ω1 δ ∧
      (∀ i ω2 δ2 d, ds[i]? = some d → I i ω2 δ2 → BX X ω2 ((δ2.set j (some (.dat (.int (i : Int))))).set l (some (.dat d))) body { nx := I (i + 1), ct := I (i + 1), bk := E.nx, rt := E.rt } Ψ) ∧ ∀ ω2 δ2, I ds.length ω2 δ2 → E.nx ω2 δ2)
    (hg : Gl X "enumerate" := by rfl) (ha : starEach [a] X.env = [(false, eval a X.env)] := by rfl) (ha2 : starEach [a] X.env = (false, eval a X.env) :: starEach [] X.env := by rfl) (hN : X.N[j]? = some x := by rfl) (hN2 : X.N[l]? = some y := by rfl)
    (hx : Loc X.env.scope x := by first | exact Or.inl rfl | exact Or.inr rfl) (hy : Loc X.env.scope y := by first | exact Or.inl rfl | exact Or.inr rfl)
    (hf : X.fn x = true ∨ X.env.scope.names.lookup x = some .local := by first | exact .inl rfl | exact .inr rfl | assumption) (hf2 : X.fn y = true ∨ X.env.scope.names.lookup y = some .local := by first | exact .inl rfl | exact .inr rfl | assumption)
    (h1 : (assignEach [.Name x p1, .Name y p2] X.env).map (·.2) = assign (.Name x p1) X.env :: (assignEach [.Name y p2] X.env).map (·.2) := by rfl) (h2 : (assignEach [.Name y p2] X.env).map (·.2) = assign (.Name y p2) X.env :: (assignEach [] X.env).map (·.2) := by rfl)
    (h3 : (assignEach [.Name x p1, .Name y p2] X.env).length = 2 := by rfl) (h4 : (assignEach [.Name x p1, .Name y p2] X.env).findIdx? (·.1) = none := by rfl)
    (hs : ∀ z, foldedSetIterable (.Call (.Name "enumerate" p4) [a] [] p5) X.env z = pure z := by intro _; rfl) : SX X ω δ (.For (.Tuple [.Name x p1, .Name y p2] kk p3) (.Call (.Name "enumerate" p4) [a] [] p5) body [] pos) E Ψ := fun σ H D s t f =>
  WS.of (ps_for hp hc (pi_enum hg hm (pa_cons (WE.pe X a) pa_nil ha2) ha) (pg_tup hc (pgs_cons (pg_name hn hN hx hf) (pgs_cons (pg_name hn hN2 hy hf2) pgs_nil h2) h1) h3 h4) (WB.pss X body) hs) (h σ H _ s fun ω1 c v H1 ⟨ds, e1, I, i0, it, ie⟩ s1 k1 o1 => by
    subst e1
    cases o1 with
    | @lst q xs _ hl hr =>
      refine ⟨q, xs, rfl, SqL.of (hid_some hl).2, ?_⟩
      refine ⟨fun i m σ' H' => m = xs.length - i ∧ i ≤ xs.length ∧ ∃ ω2 δ2, I i ω2 δ2 ∧ StOk X.K ω2 δ2 σ' H' ∧ Kp (dom ω1) H1 (dom ω2) H', ⟨xs.length, rfl, Nat.zero_le _, ω1, δ, i0, s1, Kp.refl _ _⟩, ?_⟩
      rintro i m σ' H' ⟨rfl, hi, ω2, δ2, hI, s2, k2⟩
      have hq : SqL X.K H' q xs := SqL.of (hid_some (k2 _ _ hl)).2
      by_cases hlt : i < xs.length
      · have hxi : xs[i]? = some xs[i] := List.getElem?_eq_getElem hlt
        obtain ⟨d, hd, rd⟩ := hr.get' hxi
        refine .inr ⟨⟨xs, _, hq, hxi⟩, fun σ3 H3 => ∃ ω3 δ3, I (i + 1) ω3 δ3 ∧ StOk X.K ω3 δ3 σ3 H3 ∧ Kp (dom ω1) H1 (dom ω3) H3, fun σ3 H3 p => ⟨xs.length - (i + 1), by omega, rfl, hlt, p⟩, fun u H3 yy => ?_⟩
        obtain ⟨T, z, rfl, hT, rfl, hz⟩ := yy
        have hz2 := hz xs hq
        rw [hxi] at hz2
        cases hz2
        refine ⟨T, _, rfl, .inl (.inl upd_same), rfl, _, _, rfl, _, _, rfl, rfl, ?_⟩
        have s3 := s2.new (o := .tup [.int (i : Nat), xs[i]]) hT
        have kn := kp_new (o := .tup [.int (i : Nat), xs[i]]) s2.own hT
        have s4 := (s3.store j (c := .dat (.int (i : Int))) (Rp.int _)).store l (c := .dat d) (rd.mono (k2.trans kn))
        exact it i ω2 δ2 d hd hI _ _ _ s4 (t.after (k1.trans (k2.trans kn))) ⟨fun ω3 δ3 σ3 H3 q s3 k3 => ⟨ω3, δ3, q, s3, k2.trans (kn.trans k3)⟩, fun ω3 c v H3 q s3 k3 o3 => f.rt ω3 c v H3 q s3 (k1.trans (k2.trans (kn.trans k3))) o3, fun ω3 δ3 σ3 H3 q s3 k3 => f.nx ω3 δ3 σ3 H3 q s3 (k1.trans (k2.trans (kn.trans k3))), fun ω3 δ3 σ3 H3 q s3 k3 => ⟨ω3, δ3, q, s3, k2.trans (kn.trans k3)⟩⟩
      · have e : i = xs.length := by omega
        subst e
        rw [hr.len] at hI
        exact .inl ⟨⟨xs, hq, Nat.le_refl _⟩, f.nx ω2 δ2 σ' H' (ie ω2 δ2 hI) s2 (k1.trans k2)⟩)
theorem sx_forZT (j l : Nat) (hp : PassesOwn (model X.prog X.w) X.A X.env X.xe) (hc : X.calm = true) (hn : X.N.Nodup) (hm : X.mg "zip" = none)
    (h : N X ω δ a fun ω0 c0 => N X ω0 δ b fun ω1 c => ∃ ds es, c0 = .dat (.tuple ds) ∧ c = .dat (.tuple es) ∧ ds.length = es.length ∧ ∃ I : Nat → Ow → Env → Prop, I 0 ω1 δ ∧
      (∀ i ω2 δ2 d e, ds[i]? = some d → es[i]? = some e → I i ω2 δ2 → BX X ω2 ((δ2.set j (some (.dat d))).set l (some (.dat e))) body { nx := I (i + 1), ct := I (i + 1), bk := E.nx, rt := E.rt } Ψ) ∧ ∀ ω2 δ2, I ds.length ω2 δ2 → E.nx ω2 δ2)
    (hg : Gl X "zip" := by rfl) (ha : starEach [a, b] X.env = (false, eval a X.env) :: starEach [b] X.env := by rfl) (ha2 : starEach [b] X.env = (false, eval b X.env) :: starEach [] X.env := by rfl) (hpl : (backTo p5 (starEach [b] X.env)).any (·.1) = false := by rfl) (hN : X.N[j]? = some x := by rfl) (hN2 : X.N[l]? = some y := by rfl)
    (hx : Loc X.env.scope x := by first | exact Or.inl rfl | exact Or.inr rfl) (hy : Loc X.env.scope y := by first | exact Or.inl rfl | exact Or.inr rfl)
    (hf : X.fn x = true ∨ X.env.scope.names.lookup x = some .local := by first | exact .inl rfl | exact .inr rfl | assumption) (hf2 : X.fn y = true ∨ X.env.scope.names.lookup y = some .local := by first | exact .inl rfl | exact .inr rfl | assumption)
    (h1 : (assignEach [.Name x p1, .Name y p2] X.env).map (·.2) = assign (.Name x p1) X.env :: (assignEach [.Name y p2] X.env).map (·.2) := by rfl) (h2 : (assignEach [.Name y p2] X.env).map (·.2) = assign (.Name y p2) X.env :: (assignEach [] X.env).map (·.2) := by rfl)
    (h3 : (assignEach [.Name x p1, .Name y p2] X.env).length = 2 := by rfl) (h4 : (assignEach [.Name x p1, .Name y p2] X.env).findIdx? (·.1) = none := by rfl)
    (hs : ∀ z, foldedSetIterable (.Call (.Name "zip" p4) [a, b] [] p5) X.env z = pure z := by intro _; rfl) : SX X ω δ (.For (.Tuple [.Name x p1, .Name y p2] kk p3) (.Call (.Name "zip" p4) [a, b] [] p5) body [] pos) E Ψ := fun σ H D s t f =>
  WS.of (ps_for hp hc (pi_zipA hg hm (pa_cons (WE.pe X a) (pa_cons (WE.pe X b) pa_nil ha2) ha) ha hpl) (pg_tup hc (pgs_cons (pg_name hn hN hx hf) (pgs_cons (pg_name hn hN2 hy hf2) pgs_nil h2) h1) h3 h4) (WB.pss X body) hs) (h σ H _ s fun ω0 c0 v0 H0 f0 s0 k0 o0 => f0 σ H0 _ s0 fun ω1 c v H1 ⟨ds, es, e0, e1, hlen, I, i0, it, ie⟩ s1 k1' o1 => by
    subst e0; subst e1
    have k1 := k0.trans k1'
    cases o0 with
    | @tup q xs _ hl hr =>
    cases o1 with
    | @tup q2 ys _ hl2 hr2 =>
      have hr1 := hr.mono k1'
      have hl1 := seqT k1' hl
      have ln : xs.length = ys.length := by rw [hr.len, hr2.len]; exact hlen
      refine ⟨q, q2, xs, ys, rfl, .inr ⟨sqt_hid hl1, sqt_hid hl2, ?_⟩⟩
      refine for_zipT (xs := xs) (ys := ys) ln (fun i σ' H' => ∃ ω2 δ2, I i ω2 δ2 ∧ StOk X.K ω2 δ2 σ' H' ∧ Kp (dom ω1) H1 (dom ω2) H') ⟨ω1, δ, i0, s1, Kp.refl _ _⟩ ?_ ?_ ?_
      · rintro i σ' H' ⟨ω2, δ2, _, _, k2⟩
        exact ⟨sqt_hid (seqT k2 hl1), sqt_hid (seqT k2 hl2)⟩
      · rintro i u v T σ' H' hu hv ⟨ω2, δ2, hI, s2, k2⟩ hT
        obtain ⟨d, hd, rd⟩ := hr1.get' hu
        obtain ⟨e, he, re⟩ := hr2.get' hv
        refine ⟨T, _, rfl, .inl (.inl upd_same), rfl, _, _, rfl, _, _, rfl, rfl, ?_⟩
        have s3 := s2.new (o := .tup [u, v]) hT
        have kn := kp_new (o := .tup [u, v]) s2.own hT
        have s4 := (s3.store j (c := .dat d) (rd.mono (k2.trans kn))).store l (c := .dat e) (re.mono (k2.trans kn))
        exact it i ω2 δ2 d e hd he hI _ _ _ s4 (t.after (k1.trans (k2.trans kn))) ⟨fun ω3 δ3 σ3 H3 q s3 k3 => ⟨ω3, δ3, q, s3, k2.trans (kn.trans k3)⟩, fun ω3 c v H3 q s3 k3 o3 => f.rt ω3 c v H3 q s3 (k1.trans (k2.trans (kn.trans k3))) o3, fun ω3 δ3 σ3 H3 q s3 k3 => f.nx ω3 δ3 σ3 H3 q s3 (k1.trans (k2.trans (kn.trans k3))), fun ω3 δ3 σ3 H3 q s3 k3 => ⟨ω3, δ3, q, s3, k2.trans (kn.trans k3)⟩⟩
      · rintro σ' H' ⟨ω2, δ2, hI, s2, k2⟩
        rw [hr.len] at hI
        exact f.nx ω2 δ2 σ' H' (ie ω2 δ2 hI) s2 (k1.trans k2))
end
end DL

namespace DL
open PySem PySem.Spec L2 RZ
/-! ## enumerate of a tuple -/
def IteT (K : PySem.W.Frag) (a : Addr) : It :=
  ⟨fun i H => ∃ (xs : List V) (v : V), SqT K H a xs ∧ xs[i]? = some v, fun i H v H' => ∃ T x, v = .ref T ∧ H T = none ∧ H' = upd H T (.tup [.int (i : Nat), x]) ∧ ∀ xs, SqT K H a xs → xs[i]? = some x, fun i H => ∃ xs : List V, SqT K H a xs ∧ xs.length = i⟩
theorem mem_two {b e it : Addr} (h : b ∈ [e, it]) : b = e ∨ b = it := by simpa using h
theorem mem_three {b e it a : Addr} (h : b ∈ [e, it, a]) : b = e ∨ b = it ∨ b = a := by simpa using h
theorem turn_enumT {P : Program} {w : World} {K : PySem.W.Frag} {elts : List Expr} {kk : Nat} {tpos : Pos} (a e it : Addr) (h1 : e ≠ it) (h2 : a ≠ it) (h3 : e ≠ a) :
    Turn P w K (.Tuple elts kk tpos) (IteT K a) [e, it] e (fun i h => (∃ old, IsEnum h e it ((i : Nat) : Int) old) ∧ h.IsTupleIter it a i) where
  mem := by simp
  obj := fun i h ⟨⟨old, he⟩, ⟨o, ho, hc, hd⟩⟩ b hb => by
    rcases mem_two hb with rfl | rfl
    · exact ⟨_, he, fun v q => nomatch q⟩
    · exact ⟨o, ho, fun v q => by rw [hd] at q; cases q⟩
  keep := fun i h hp1 ⟨⟨old, he⟩, hi⟩ k => ⟨⟨old, k e (by simp) _ he⟩, hi.at fun o q => k it (by simp) o q⟩
  item := by
    rintro X rfl rfl rfl hc i pins s σ H E I hf ⟨⟨old, he⟩, hit⟩ ⟨xs, x, hq, hx⟩
    obtain ⟨itl, rr1, p, hz⟩ := I.tuple hq
    obtain ⟨u, hu, ru⟩ := rr1.get hx
    have pt : s.heap.IsTuple a itl.toArray := p
    have hEl : e < s.heap.objs.size := Heap.lt_size he
    have hIl : it < s.heap.objs.size := by obtain ⟨_, q, _⟩ := hit; exact Heap.lt_size q
    have hLt : i < itl.toArray.size := by simpa using (List.getElem?_eq_some_iff.mp hu).1
    have hef : e ∉ [it, a] := fun q => (mem_two q).elim h1 h3
    refine wpAny_pyNext_enum_itemD (Draws.tuple (A := X.A.in1) (show X.A.in1.handled = none from I.ok.hd hc) it a h2 itl.toArray) he ⟨hit, pt⟩ hLt h1 hef fun y hp1 tk hy ho ⟨hit', _⟩ hT hsz hk => ?_
    have ey : y = u := by
      have h5 : itl.toArray[i]? = some u := by simpa using hu
      have h6 : itl.toArray[i]? = some y := hy
      rw [h6] at h5
      exact Option.some.inj h5
    subst ey
    refine ⟨_, rfl, wpAny_letOwnedTupleGo_enum (s := { s with heap := hp1, toks := tk + 1 }) ho fun hp2 he' sb => ?_⟩
    have hTT : hp2.get? s.heap.objs.size = some { cls := .type "tuple", data := .seq #[.int i tk, y] } := (sb.2 _ (Nat.ne_of_gt hEl)).trans hT
    have nwO : ObjOk X.prog X.w (upd H s.heap.objs.size (.tup [.int (i : Nat), x])) hp2 s.heap.objs.size (.tup [.int (i : Nat), x]) :=
      ⟨by show 2 ≤ sizeLine; decide, [.int i tk, y], .cons ⟨_, rfl⟩ (.cons ru .nil), ⟨_, hTT, rfl, _, rfl⟩⟩
    have J : Inv X pins σ (upd H s.heap.objs.size (.tup [.int (i : Nat), x])) { s with heap := hp2, toks := tk + 1 } :=
      I.turnedNew (ch := [e, it]) (fun b ob hb q => (sb.2 b (fun z => hb (by simp [z]))).trans (hk b ob (fun z => hb (by simp [z])) (fun z => hb (by simp [z])) q)) hf (Nat.le_refl _) nwO
    refine ⟨.ref s.heap.objs.size, _, J, rfl, ⟨_, x, rfl, I.hok.fresh (Nat.le_refl _), rfl, fun ys hy => by rw [I.tuple_inj hy hq]; exact hx⟩, ⟨⟨y, ?_⟩, hit'.at fun o q => (sb.2 it (Ne.symm h1)).trans q⟩, fun b hb => ?_⟩
    · rw [show ((i + 1 : Nat) : Int) = (i : Int) + 1 from by omega]; exact he'
    · have hBb : b < s.heap.objs.size := by
        rcases mem_two hb with rfl | rfl <;> assumption
      rw [upd_ne (Nat.ne_of_lt hBb)]
      exact (hf b hb).1
  done := by
    rintro X rfl rfl rfl hc i pins s σ H E I hf ⟨⟨old, he⟩, hit⟩ ⟨xs, hq, hx⟩
    obtain ⟨itl, rr1, p, hz⟩ := I.tuple hq
    have pt : s.heap.IsTuple a itl.toArray := p
    obtain ⟨g0, g1b, g2b, g3b, g4b, g5b⟩ := hf it (by simp)
    have hLl := rr1.length
    have hn : i = itl.toArray.size := by
      simp
      omega
    subst hn
    exact wpAny_pyNext_enum_endD (Draws.tuple (A := X.A.in1) (show X.A.in1.handled = none from I.ok.hd hc) it a h2 itl.toArray) he ⟨hit, pt⟩ fun hp1 eb => ⟨rfl, I.turned (t' := s.toks) (fun b o hb q => eb b o hb q) g0 g1b g3b g4b g5b⟩
  self := fun A i s Q E ⟨⟨_, he⟩, _⟩ h => wpAny_pyIter_enum he h
def iEnumT (K : PySem.W.Frag) (ta : TA) : TI := fun σ H R => ta σ H fun vs J => ∃ a xs, vs = [.ref a] ∧ SqT K J a xs ∧ R (IteT K a) J
theorem meets_enumT (t : Addr) (items : Array Value) (n : Nat) (dct : Option Addr) (sl : Array (Option Value)) :
    Meets (Builtin.«enumerate.__new__» ⟨[.type "enumerate", .ref t], []⟩) (fun _ R s => s.heap.get? t = some { cls := .type "tuple", dict := dct, data := .seq items n, slots := sl } ∧
      R (.ok (.ret (.ref (s.heap.push { cls := .type "tuple_iterator", data := .fields #[.ref t, .int 0 0] }).objs.size)))
        { s with heap := (s.heap.push { cls := .type "tuple_iterator", data := .fields #[.ref t, .int 0 0] }).push { cls := .type "enumerate", data := .fields #[.none, .bool false, .ref s.heap.objs.size, rawInt 0, .none, .none] } }) :=
  .of_wp fun prog w A R s h => by
    obtain ⟨hp, g, d, tk, os⟩ := s; obtain ⟨g1, h⟩ := h
    have hsub := sub_enumerate
    have g2 : Heap.IsTuple (Shared.heap ⟨hp, g, d, tk, os⟩) t items := ⟨_, g1, rfl, n, rfl⟩
    wp_walk using AutoSeq1.wpAny_loadPart' g1
    refine wpAny_stack_any fun st => wpAny_pure ?_
    split
    · rename_i c _ _ _ _ _
      cases (c == Value.type "enumerate")
      · wp_walk using AutoSeq1.wpAny_loadPart' g1, wpAny_pyIter_tuple g2
        exact ⟨_, rfl, h⟩
      · wp_walk using AutoSeq1.wpAny_loadPart' g1, wpAny_pyIter_tuple g2
        exact ⟨_, rfl, h⟩
    · wp_walk using AutoSeq1.wpAny_loadPart' g1, wpAny_pyIter_tuple g2
      exact ⟨_, rfl, h⟩
theorem call_enumT {prog : Program} {w : World} {A : Around} {E : Value → Shared → Prop} {s : Shared} {t : Addr} {items : Array Value} {Q : Value → Shared → Prop} (hL : s.heap.IsTuple t items)
    (h : ∀ hp1, IsEnum hp1 (s.heap.objs.size + 1) s.heap.objs.size 0 .none → hp1.IsTupleIter s.heap.objs.size t 0 → (∀ b o, s.heap.get? b = some o → hp1.get? b = some o) → Q (.ref (s.heap.objs.size + 1)) { s with heap := hp1 }) :
    wpAny (model prog w) A (call (.type "enumerate") [.ref t]) Q E s := by
  obtain ⟨⟨c, dct, dt, sl⟩, g1, hc, n, hd⟩ := hL
  obtain rfl : c = .type "tuple" := hc
  obtain rfl : dt = .seq items n := hd
  refine callType_new F.called_enumerate (by decide) (F.typeCall_enumerate_1 _) (F.newCall_enumerate_1 _) (fun obj => F.args_object_init_2 obj _) F.entry_enumerate_new (meets_enumT t items n dct sl) ⟨g1, ?_⟩
  have hz : (s.heap.push { cls := .type "tuple_iterator", data := .fields #[.ref t, .int 0 0] }).objs.size = s.heap.objs.size + 1 := Heap.size_push ..
  show _ ∧ _
  rw [hz]
  have he : IsEnum ((s.heap.push { cls := .type "tuple_iterator", data := .fields #[.ref t, .int 0 0] }).push { cls := .type "enumerate", data := .fields #[.none, .bool false, .ref s.heap.objs.size, rawInt 0, .none, .none] }) (s.heap.objs.size + 1) s.heap.objs.size 0 .none := by
    have := Heap.get?_push_size (s.heap.push { cls := .type "tuple_iterator", data := .fields #[.ref t, .int 0 0] }) (o := { cls := .type "enumerate", data := .fields #[.none, .bool false, .ref s.heap.objs.size, rawInt 0, .none, .none] }) rfl
    rw [hz] at this
    exact this
  exact ⟨⟨_, he, rfl⟩, h _ he ⟨_, Heap.get?_push_of_some _ (Heap.get?_push_size _ rfl), rfl, rfl⟩ fun b o x => Heap.get?_push_of_some _ (Heap.get?_push_of_some _ x)⟩
theorem pi_enumT {X : Cx} {e : Expr} {ta : TA} {p pos tpos : Pos} {elts : List Expr} {kk : Nat} (hg : Gl X "enumerate") (hm : X.mg "enumerate" = none) (ha : PA X [e] ta) (hs : starEach [e] X.env = [(false, eval e X.env)] := by rfl) :
    PI X (.Tuple elts kk tpos) (.Call (.Name "enumerate" p) [e] [] pos) (iEnumT X.K ta) := by
  refine ⟨fun pins s σ H R I h => ?_⟩
  refine PyProof.Rows.Call_ (ld_blt I hg hm PyProof.Rows.boot_enumerate (PyProof.Rows.callWith_type1 (thn (ha.run pos pins s σ H _ I h) fun us s1 ⟨vs, H1, I1, r1, a, xs, ex, hq, q⟩ => ?_) hs rfl))
  subst ex
  cases r1 with
  | cons r rr =>
    cases rr
    cases r
    obtain ⟨itl, rr1, p', hz⟩ := I1.tuple hq
    have pt : s1.heap.IsTuple a itl.toArray := p'
    have hal : a < s1.heap.objs.size := by obtain ⟨_, z, _⟩ := pt; exact Heap.lt_size z
    refine call_enumT pt fun hp1 he hit hk => wpAny_pyIter_enum he ?_
    have IJ : Inv X pins σ H1 { s1 with heap := hp1 } := I1.kept (t' := s1.toks) hk
    refine ⟨s1.heap.objs.size + 1, [s1.heap.objs.size + 1, s1.heap.objs.size], _, _, H1, rfl, IJ, turn_enumT a (s1.heap.objs.size + 1) s1.heap.objs.size (Nat.succ_ne_self _) (Nat.ne_of_lt hal) (Ne.symm (Nat.ne_of_lt (Nat.lt_succ_of_lt hal))), ⟨⟨.none, he⟩, hit⟩, fun b hb => ?_, q⟩
    have hLe : s1.heap.objs.size ≤ b := by
      rcases mem_two hb with rfl | rfl
      · exact Nat.le_add_right _ _
      · exact Nat.le_refl _
    exact I1.fpOk hLe (I1.hok.fresh hLe)
section
variable {X : Cx} {ω : Ow} {δ : Env} {a b c e : Expr} {body : List Stmt} {E : En} {pos p1 p2 p3 p4 p5 : Pos} {x y : Str} {kk : Nat}
theorem s_forEnT (j l : Nat) (hp : PassesOwn (model X.prog X.w) X.A X.env X.xe) (hc : X.calm = true) (hn : X.N.Nodup) (hm : X.mg "enumerate" = none)
    (h : N X ω δ a fun ω1 c => ∃ ds, c = .dat (.tuple ds) ∧ ∃ I : Nat → Ow → Env → Prop, I 0 ω1 δ ∧
      (∀ i ω2 δ2 d, ds[i]? = some d → I i ω2 δ2 → B X ω2 ((δ2.set j (some (.dat (.int (i : Int))))).set l (some (.dat d))) body { nx := I (i + 1), ct := I (i + 1), bk := E.nx, rt := E.rt }) ∧ ∀ ω2 δ2, I ds.length ω2 δ2 → E.nx ω2 δ2)
    (hg : Gl X "enumerate" := by rfl) (ha : starEach [a] X.env = [(false, eval a X.env)] := by rfl) (ha2 : starEach [a] X.env = (false, eval a X.env) :: starEach [] X.env := by rfl) (hN : X.N[j]? = some x := by rfl) (hN2 : X.N[l]? = some y := by rfl)
    (hx : Loc X.env.scope x := by first | exact Or.inl rfl | exact Or.inr rfl) (hy : Loc X.env.scope y := by first | exact Or.inl rfl | exact Or.inr rfl)
    (hf : X.fn x = true ∨ X.env.scope.names.lookup x = some .local := by first | exact .inl rfl | exact .inr rfl | assumption) (hf2 : X.fn y = true ∨ X.env.scope.names.lookup y = some .local := by first | exact .inl rfl | exact .inr rfl | assumption)
    (h1 : (assignEach [.Name x p1, .Name y p2] X.env).map (·.2) = assign (.Name x p1) X.env :: (assignEach [.Name y p2] X.env).map (·.2) := by rfl) (h2 : (assignEach [.Name y p2] X.env).map (·.2) = assign (.Name y p2) X.env :: (assignEach [] X.env).map (·.2) := by rfl)
    (h3 : (assignEach [.Name x p1, .Name y p2] X.env).length = 2 := by rfl) (h4 : (assignEach [.Name x p1, .Name y p2] X.env).findIdx? (·.1) = none := by rfl)
    (hs : ∀ z, foldedSetIterable (.Call (.Name "enumerate" p4) [a] [] p5) X.env z = pure z := by intro _; rfl) : S X ω δ (.For (.Tuple [.Name x p1, .Name y p2] kk p3) (.Call (.Name "enumerate" p4) [a] [] p5) body [] pos) E := fun σ H D s f =>
  WS.of (ps_for hp hc (pi_enumT hg hm (pa_cons (WE.pe X a) pa_nil ha2) ha) (pg_tup hc (pgs_cons (pg_name hn hN hx hf) (pgs_cons (pg_name hn hN2 hy hf2) pgs_nil h2) h1) h3 h4) (WB.pss X body) hs) (h σ H _ s fun ω1 c v H1 ⟨ds, e1, I, i0, it, ie⟩ s1 k1 o1 => by
    subst e1
    cases o1 with
    | @tup q xs _ hLl hr =>
      refine ⟨q, xs, rfl, sqt_hid hLl, ?_⟩
      refine ⟨fun i m σ' H' => m = xs.length - i ∧ i ≤ xs.length ∧ ∃ ω2 δ2, I i ω2 δ2 ∧ StOk X.K ω2 δ2 σ' H' ∧ Kp (dom ω1) H1 (dom ω2) H', ⟨xs.length, rfl, Nat.zero_le _, ω1, δ, i0, s1, Kp.refl _ _⟩, ?_⟩
      rintro i m σ' H' ⟨rfl, hi, ω2, δ2, hI, s2, k2⟩
      have hq : SqT X.K H' q xs := sqt_hid (seqT k2 hLl)
      by_cases hLt : i < xs.length
      · have hxi : xs[i]? = some xs[i] := List.getElem?_eq_getElem hLt
        obtain ⟨d, hd, rd⟩ := hr.get' hxi
        refine .inr ⟨⟨xs, _, hq, hxi⟩, fun σ3 H3 => ∃ ω3 δ3, I (i + 1) ω3 δ3 ∧ StOk X.K ω3 δ3 σ3 H3 ∧ Kp (dom ω1) H1 (dom ω3) H3, fun σ3 H3 p => ⟨xs.length - (i + 1), by omega, rfl, hLt, p⟩, fun u H3 yy => ?_⟩
        obtain ⟨T, z, rfl, hT, rfl, hz⟩ := yy
        have hz2 := hz xs hq
        rw [hxi] at hz2
        cases hz2
        refine ⟨T, _, rfl, .inl (.inl upd_same), rfl, _, _, rfl, _, _, rfl, rfl, ?_⟩
        have s3 := s2.new (o := .tup [.int (i : Nat), xs[i]]) hT
        have kn := kp_new (o := .tup [.int (i : Nat), xs[i]]) s2.own hT
        have s4 := (s3.store j (c := .dat (.int (i : Int))) (Rp.int _)).store l (c := .dat d) (rd.mono (k2.trans kn))
        exact it i ω2 δ2 d hd hI _ _ _ s4 ⟨fun ω3 δ3 σ3 H3 q s3 k3 => ⟨ω3, δ3, q, s3, k2.trans (kn.trans k3)⟩, fun ω3 c v H3 q s3 k3 o3 => f.rt ω3 c v H3 q s3 (k1.trans (k2.trans (kn.trans k3))) o3, fun ω3 δ3 σ3 H3 q s3 k3 => f.nx ω3 δ3 σ3 H3 q s3 (k1.trans (k2.trans (kn.trans k3))), fun ω3 δ3 σ3 H3 q s3 k3 => ⟨ω3, δ3, q, s3, k2.trans (kn.trans k3)⟩⟩
      · have e : i = xs.length := by omega
        subst e
        rw [hr.len] at hI
        exact .inl ⟨⟨xs, hq, rfl⟩, f.nx ω2 δ2 σ' H' (ie ω2 δ2 hI) s2 (k1.trans k2)⟩)
end
/-! ## zip of a list and a tuple -/
def ItzM (K : PySem.W.Frag) (a b : Addr) : It :=
  ⟨fun i H => ∃ (xs ys : List V) (x y : V), SqL K H a xs ∧ SqT K H b ys ∧ xs[i]? = some x ∧ ys[i]? = some y,
    fun i H v H' => ∃ T x y, v = .ref T ∧ H T = none ∧ H' = upd H T (.tup [x, y]) ∧ (∀ xs, SqL K H a xs → xs[i]? = some x) ∧ ∀ ys, SqT K H b ys → ys[i]? = some y,
    fun i H => ∃ xs ys : List V, SqL K H a xs ∧ SqT K H b ys ∧ xs.length = i ∧ ys.length = i⟩
theorem mem_5 {c z t u i j : Addr} (h : c ∈ [z, t, u, i, j]) : c = z ∨ c = t ∨ c = u ∨ c = i ∨ c = j := by simpa using h
theorem turn_zipM {P : Program} {w : World} {K : PySem.W.Frag} {elts : List Expr} {kk : Nat} {tpos : Pos} {a b z TI TO i1 i2 : Addr} (D : ZipSep2 z TI TO i1 i2 [i1, a] [i2, b]) (n1 : a ≠ i1) (n2 : b ≠ i2) :
    Turn P w K (.Tuple elts kk tpos) (ItzM K a b) [z, TI, TO, i1, i2] z (fun i h => IsZip h z TI TO .none ∧ IsTupOf2 h TI (.ref i1) (.ref i2) ∧ (∃ x y, IsTupOf2 h TO x y) ∧ h.IsListIter i1 a i ∧ h.IsTupleIter i2 b i) where
  mem := by simp
  obj := fun i h ⟨hz, hTI, ⟨x, y, hTO⟩, ⟨o1, e1, _, d1⟩, ⟨o2, e2, _, d2⟩⟩ c hc => by
    rcases mem_5 hc with rfl | rfl | rfl | rfl | rfl
    · exact ⟨_, hz, fun v q => nomatch q⟩
    · exact ⟨_, hTI, fun v q => nomatch q⟩
    · exact ⟨_, hTO, fun v q => nomatch q⟩
    · exact ⟨o1, e1, fun v q => by rw [d1] at q; cases q⟩
    · exact ⟨o2, e2, fun v q => by rw [d2] at q; cases q⟩
  keep := fun i h hp1 ⟨hz, hTI, ⟨x, y, hTO⟩, h1, h2⟩ k => ⟨k z (by simp) _ hz, k TI (by simp) _ hTI, ⟨x, y, k TO (by simp) _ hTO⟩, h1.at fun o q => k i1 (by simp) o q, h2.at fun o q => k i2 (by simp) o q⟩
  item := by
    rintro X rfl rfl rfl hc i pins s σ H E I hf ⟨hz, hTI, ⟨x0, y0, hTO⟩, h1, h2⟩ ⟨xs, ys, x, y, hqx, hqy, hx, hy⟩
    obtain ⟨itl, rr1, p, _⟩ := I.list hqx
    obtain ⟨jts, rw2, q2, _⟩ := I.tuple hqy
    obtain ⟨u, hu, ru⟩ := rr1.get hx
    obtain ⟨u2, hu2, ru2⟩ := rw2.get hy
    have pl : s.heap.IsList a itl.toArray := p.isList
    have pt : s.heap.IsTuple b jts.toArray := q2
    have hZl : z < s.heap.objs.size := Heap.lt_size hz
    have l1 : i < itl.toArray.size := by simpa using (List.getElem?_eq_some_iff.mp hu).1
    have l2 : i < jts.toArray.size := by simpa using (List.getElem?_eq_some_iff.mp hu2).1
    have hh : X.A.in1.handled = none := I.ok.hd hc
    refine wpAny_pyNext_zipD2_item D (Draws.list hh i1 a n1 itl.toArray) (Draws.tuple hh i2 b n2 jts.toArray) hz hTI hTO ⟨h1, pl⟩ ⟨h2, pt⟩ l1 l2 fun y1 y2 hp1 tk hy1 hy2 z' TO' ⟨h1', _⟩ ⟨h2', _⟩ hT hsz hk => ?_
    have e1 : y1 = u := by
      have h5 : itl.toArray[i]? = some u := by simpa using hu
      have h6 : itl.toArray[i]? = some y1 := hy1
      rw [h6] at h5
      exact Option.some.inj h5
    have e2 : y2 = u2 := by
      have h5 : jts.toArray[i]? = some u2 := by simpa using hu2
      have h6 : jts.toArray[i]? = some y2 := hy2
      rw [h6] at h5
      exact Option.some.inj h5
    subst e1; subst e2
    refine ⟨_, rfl, wpAny_letOwnedTupleGo_zip (s := { s with heap := hp1, toks := tk }) z' fun hp2 z'' sb => ?_⟩
    have hTT : hp2.get? s.heap.objs.size = some { cls := .type "tuple", data := .seq #[y1, y2] } := (sb.2 _ (Nat.ne_of_gt hZl)).trans hT
    have nwO : ObjOk X.prog X.w (upd H s.heap.objs.size (.tup [x, y])) hp2 s.heap.objs.size (.tup [x, y]) :=
      ⟨by show 2 ≤ sizeLine; decide, [y1, y2], .cons ru (.cons ru2 .nil), ⟨_, hTT, rfl, _, rfl⟩⟩
    have J : Inv X pins σ (upd H s.heap.objs.size (.tup [x, y])) { s with heap := hp2, toks := tk } :=
      I.turnedNew (t' := tk) (ch := [z, TI, TO, i1, i2]) (fun c o hb q => (sb.2 c (fun q' => hb (by simp [q']))).trans (hk c o (fun q' => hb (by simp [q'])) (fun q' => hb (by simp [q'])) (fun q' => hb (by simp [q'])) (fun q' => hb (by simp [q'])) q)) hf (Nat.le_refl _) nwO
    have neTI : TI ≠ i2 := D.TIi2
    refine ⟨.ref s.heap.objs.size, _, J, rfl, ⟨_, x, y, rfl, I.hok.fresh (Nat.le_refl _), rfl, fun l hLl => by rw [I.list_inj hLl hqx]; exact hx, fun l hLl => by rw [I.tuple_inj hLl hqy]; exact hy⟩, ⟨z'', ?_, ⟨y1, y2, ?_⟩, ?_, ?_⟩, fun c hcm => ?_⟩
    · exact (sb.2 _ D.TIz).trans (hk _ _ D.TIz D.TITO D.TIi1 D.TIi2 hTI)
    · exact (sb.2 _ D.TOz).trans TO'
    · exact h1'.at fun o q => (sb.2 _ (Ne.symm D.zi1)).trans q
    · exact h2'.at fun o q => (sb.2 _ (Ne.symm D.zi2)).trans q
    · have hLt : c < s.heap.objs.size := by
        rcases mem_5 hcm with rfl | rfl | rfl | rfl | rfl
        · exact hZl
        · exact Heap.lt_size hTI
        · exact Heap.lt_size hTO
        · obtain ⟨_, e1, _⟩ := h1; exact Heap.lt_size e1
        · obtain ⟨_, e2, _⟩ := h2; exact Heap.lt_size e2
      rw [upd_ne (Nat.ne_of_lt hLt)]
      exact (hf c hcm).1
  done := by
    rintro X rfl rfl rfl hc i pins s σ H E I hf ⟨hz, hTI, ⟨x0, y0, hTO⟩, h1, h2⟩ ⟨xs, ys, hqx, hqy, g1, g2⟩
    obtain ⟨itl, rr1, p, _⟩ := I.list hqx
    obtain ⟨jts, rw2, q2, _⟩ := I.tuple hqy
    have pl : s.heap.IsList a itl.toArray := p.isList
    have pt : s.heap.IsTuple b jts.toArray := q2
    have l1 := rr1.length
    have l2 := rw2.length
    have hh : X.A.in1.handled = none := I.ok.hd hc
    have m1 : i = itl.toArray.size := by
      simp
      omega
    have m2 : i = jts.toArray.size := by
      simp
      omega
    exact wpAny_pyNext_zipD2_end D (Draws.list hh i1 a n1 itl.toArray) (Draws.tuple hh i2 b n2 jts.toArray) hz hTI hTO ⟨h1, pl⟩ ⟨h2, pt⟩ (Nat.le_of_eq m1) (Nat.le_of_eq m2) (.inl m1) fun hp1 tk hk => ⟨rfl, I.turnedL (t' := tk) (ch := [z, TI, TO, i1, i2]) (fun c o hb q => hk c o (fun q' => hb (by simp [q'])) (fun q' => hb (by simp [q'])) (fun q' => hb (by simp [q'])) (fun q' => hb (by simp [q'])) q) hf⟩
  self := fun A i s Q E st h => wpAny_pyIter_zip st.1 h
def iZipM (K : PySem.W.Frag) (ta : TA) : TI := fun σ H R => ta σ H fun vs J => ∃ a b xs ys, vs = [.ref a, .ref b] ∧ SqL K J a xs ∧ SqT K J b ys ∧ R (ItzM K a b) J
theorem pi_zipM {X : Cx} {e e2 : Expr} {ta : TA} {p pos tpos : Pos} {elts : List Expr} {kk : Nat} (hg : Gl X "zip") (hm : X.mg "zip" = none) (ha : PA X [e, e2] ta)
    (hs : starEach [e, e2] X.env = (false, eval e X.env) :: starEach [e2] X.env := by rfl) (hpl : (backTo pos (starEach [e2] X.env)).any (·.1) = false := by rfl) : PI X (.Tuple elts kk tpos) (.Call (.Name "zip" p) [e, e2] [] pos) (iZipM X.K ta) := by
  refine ⟨fun pins s σ H R I h => ?_⟩
  refine PyProof.Rows.Call_ (ld_blt I hg hm PyProof.Rows.boot_zip (PyProof.Rows.callWith_type1 (thn (ha.run pos pins s σ H _ I h) fun us s1 ⟨vs, H1, I1, r1, a, b, xs, ys, ex, hqx, hqy, q⟩ => ?_) hs hpl))
  subst ex
  cases r1 with
  | cons r rr =>
    cases rr with
    | cons r' rr =>
      cases rr
      cases r
      cases r'
      obtain ⟨itl, rr1, p1, _⟩ := I1.list hqx
      obtain ⟨jts, rw2, q2, _⟩ := I1.tuple hqy
      have pl : s1.heap.IsList a itl.toArray := p1.isList
      have pt : s1.heap.IsTuple b jts.toArray := q2
      have la : a < s1.heap.objs.size := by obtain ⟨_, z, _⟩ := pl; exact Heap.lt_size z
      have lb : b < s1.heap.objs.size := by obtain ⟨_, z, _⟩ := pt; exact Heap.lt_size z
      refine zip_begins2 (begins_list a itl.toArray) (begins_tuple b jts.toArray) pl pt fun hp1 hz hTI hTO g1 g2 hsz hk => wpAny_pyIter_zip hz ?_
      have IJ : Inv X pins σ H1 { s1 with heap := hp1 } := I1.kept (t' := s1.toks) hk
      refine ⟨s1.heap.objs.size + 4, [s1.heap.objs.size + 4, s1.heap.objs.size + 2, s1.heap.objs.size + 3, s1.heap.objs.size, s1.heap.objs.size + 1], _, _, H1, rfl, IJ, turn_zipM (zip_sep2 (fp1 := [a]) (fp2 := [b]) (fun c hc => by rw [List.mem_singleton.mp hc]; exact la) (fun c hc => by rw [List.mem_singleton.mp hc]; exact lb)) (Nat.ne_of_lt la) (Nat.ne_of_lt (Nat.lt_succ_of_lt lb)), ⟨hz, hTI, ⟨_, _, hTO⟩, ⟨_, g1, rfl, rfl⟩, ⟨_, g2, rfl, rfl⟩⟩, fun c hcm => ?_, q⟩
      have hLe : s1.heap.objs.size ≤ c := by
        rcases mem_5 hcm with rfl | rfl | rfl | rfl | rfl
        · exact Nat.le_add_right _ _
        · exact Nat.le_add_right _ _
        · exact Nat.le_add_right _ _
        · exact Nat.le_refl _
        · exact Nat.le_add_right _ _
      exact I1.fpOk hLe (I1.hok.fresh hLe)
theorem for_zipM {K : PySem.W.Frag} {a b : Addr} {xs ys : List V} {g : TG} {tb : TS} {D : Ends} {σ : L2.St} {H : Hp} (hLl : xs.length = ys.length) (Pz : Nat → L2.St → Hp → Prop) (h0 : Pz 0 σ H) (hq : ∀ i σ H, Pz i σ H → SqL K H a xs ∧ SqT K H b ys)
    (hs : ∀ (i : Nat) (x y : V) (T : Addr) (σ : L2.St) (H : Hp), xs[i]? = some x → ys[i]? = some y → Pz i σ H → H T = none → g (.ref T) σ (upd H T (.tup [x, y])) fun σ2 H2 => tb { D with nx := Pz (i + 1), ct := Pz (i + 1), bk := D.nx } σ2 H2) (hd : ∀ σ H, Pz xs.length σ H → D.nx σ H) :
    ∃ W : Nat → Nat → L2.St → Hp → Prop, (∃ m, W 0 m σ H) ∧ ∀ i m σ H, W i m σ H →
      ((ItzM K a b).stop i H ∧ D.nx σ H) ∨ ((ItzM K a b).go i H ∧ ∃ N : L2.St → Hp → Prop, (∀ σ' H', N σ' H' → ∃ m', m' < m ∧ W (i + 1) m' σ' H') ∧ ∀ v H', (ItzM K a b).yld i H v H' → g v σ H' fun σ2 H2 => tb { D with nx := N, ct := N, bk := D.nx } σ2 H2) := by
  refine ⟨fun i m σ H => m = xs.length - i ∧ i ≤ xs.length ∧ Pz i σ H, ⟨xs.length, rfl, Nat.zero_le _, h0⟩, ?_⟩
  rintro i m σ H ⟨rfl, hi, hP⟩
  obtain ⟨q1, q2⟩ := hq i σ H hP
  by_cases hLt : i < xs.length
  · have hx : xs[i]? = some xs[i] := List.getElem?_eq_getElem hLt
    have hy : ys[i]? = some ys[i] := List.getElem?_eq_getElem (by omega)
    refine .inr ⟨⟨xs, ys, _, _, q1, q2, hx, hy⟩, Pz (i + 1), fun σ' H' p => ⟨xs.length - (i + 1), by omega, rfl, hLt, p⟩, ?_⟩
    rintro v H' ⟨T, x, y, rfl, hT, rfl, z1, z2⟩
    exact hs i x y T σ H (z1 xs q1) (z2 ys q2) hP hT
  · have e : i = xs.length := by omega
    subst e
    exact .inl ⟨⟨xs, ys, q1, q2, rfl, hLl.symm⟩, hd σ H hP⟩
section
variable {X : Cx} {ω : Ow} {δ : Env} {a b c e : Expr} {body : List Stmt} {E : En} {pos p1 p2 p3 p4 p5 : Pos} {x y : Str} {kk : Nat}
theorem s_forZM (j l : Nat) (hp : PassesOwn (model X.prog X.w) X.A X.env X.xe) (hc : X.calm = true) (hn : X.N.Nodup) (hm : X.mg "zip" = none)
    (h : N X ω δ a fun ω0 c0 => N X ω0 δ b fun ω1 c => ∃ ds es, c0 = .dat (.list ds) ∧ c = .dat (.tuple es) ∧ ds.length = es.length ∧ ∃ I : Nat → Ow → Env → Prop, I 0 ω1 δ ∧
      (∀ i ω2 δ2 d e, ds[i]? = some d → es[i]? = some e → I i ω2 δ2 → B X ω2 ((δ2.set j (some (.dat d))).set l (some (.dat e))) body { nx := I (i + 1), ct := I (i + 1), bk := E.nx, rt := E.rt }) ∧ ∀ ω2 δ2, I ds.length ω2 δ2 → E.nx ω2 δ2)
    (hg : Gl X "zip" := by rfl) (ha : starEach [a, b] X.env = (false, eval a X.env) :: starEach [b] X.env := by rfl) (ha2 : starEach [b] X.env = (false, eval b X.env) :: starEach [] X.env := by rfl) (hpl : (backTo p5 (starEach [b] X.env)).any (·.1) = false := by rfl) (hN : X.N[j]? = some x := by rfl) (hN2 : X.N[l]? = some y := by rfl)
    (hx : Loc X.env.scope x := by first | exact Or.inl rfl | exact Or.inr rfl) (hy : Loc X.env.scope y := by first | exact Or.inl rfl | exact Or.inr rfl)
    (hf : X.fn x = true ∨ X.env.scope.names.lookup x = some .local := by first | exact .inl rfl | exact .inr rfl | assumption) (hf2 : X.fn y = true ∨ X.env.scope.names.lookup y = some .local := by first | exact .inl rfl | exact .inr rfl | assumption)
    (h1 : (assignEach [.Name x p1, .Name y p2] X.env).map (·.2) = assign (.Name x p1) X.env :: (assignEach [.Name y p2] X.env).map (·.2) := by rfl) (h2 : (assignEach [.Name y p2] X.env).map (·.2) = assign (.Name y p2) X.env :: (assignEach [] X.env).map (·.2) := by rfl)
    (h3 : (assignEach [.Name x p1, .Name y p2] X.env).length = 2 := by rfl) (h4 : (assignEach [.Name x p1, .Name y p2] X.env).findIdx? (·.1) = none := by rfl)
    (hs : ∀ z, foldedSetIterable (.Call (.Name "zip" p4) [a, b] [] p5) X.env z = pure z := by intro _; rfl) : S X ω δ (.For (.Tuple [.Name x p1, .Name y p2] kk p3) (.Call (.Name "zip" p4) [a, b] [] p5) body [] pos) E := fun σ H D s f =>
  WS.of (ps_for hp hc (pi_zipM hg hm (pa_cons (WE.pe X a) (pa_cons (WE.pe X b) pa_nil ha2) ha) ha hpl) (pg_tup hc (pgs_cons (pg_name hn hN hx hf) (pgs_cons (pg_name hn hN2 hy hf2) pgs_nil h2) h1) h3 h4) (WB.pss X body) hs) (h σ H _ s fun ω0 c0 v0 H0 g0 s0 k0 o0 => g0 σ H0 _ s0 fun ω1 c v H1 ⟨ds, es, e0, e1, hlen, I, i0, it, ie⟩ s1 k1' o1 => by
    subst e0; subst e1
    have k1 := k0.trans k1'
    cases o0 with
    | @lst q xs _ hLl hr =>
    cases o1 with
    | @tup q2 ys _ hl2 hr2 =>
      have hr1 := hr.mono k1'
      have hl1 := k1' _ _ hLl
      have ln : xs.length = ys.length := by rw [hr.len, hr2.len]; exact hlen
      refine ⟨q, q2, xs, ys, rfl, SqL.of (hid_some hl1).2, sqt_hid hl2, ?_⟩
      refine for_zipM (xs := xs) (ys := ys) ln (fun i σ' H' => ∃ ω2 δ2, I i ω2 δ2 ∧ StOk X.K ω2 δ2 σ' H' ∧ Kp (dom ω1) H1 (dom ω2) H') ⟨ω1, δ, i0, s1, Kp.refl _ _⟩ ?_ ?_ ?_
      · rintro i σ' H' ⟨ω2, δ2, _, _, k2⟩
        exact ⟨SqL.of (hid_some (k2 _ _ hl1)).2, sqt_hid (seqT k2 hl2)⟩
      · rintro i u v T σ' H' hu hv ⟨ω2, δ2, hI, s2, k2⟩ hT
        obtain ⟨d, hd, rd⟩ := hr1.get' hu
        obtain ⟨e, he, re⟩ := hr2.get' hv
        refine ⟨T, _, rfl, .inl (.inl upd_same), rfl, _, _, rfl, _, _, rfl, rfl, ?_⟩
        have s3 := s2.new (o := .tup [u, v]) hT
        have kn := kp_new (o := .tup [u, v]) s2.own hT
        have s4 := (s3.store j (c := .dat d) (rd.mono (k2.trans kn))).store l (c := .dat e) (re.mono (k2.trans kn))
        exact it i ω2 δ2 d e hd he hI _ _ _ s4 ⟨fun ω3 δ3 σ3 H3 q s3 k3 => ⟨ω3, δ3, q, s3, k2.trans (kn.trans k3)⟩, fun ω3 c v H3 q s3 k3 o3 => f.rt ω3 c v H3 q s3 (k1.trans (k2.trans (kn.trans k3))) o3, fun ω3 δ3 σ3 H3 q s3 k3 => f.nx ω3 δ3 σ3 H3 q s3 (k1.trans (k2.trans (kn.trans k3))), fun ω3 δ3 σ3 H3 q s3 k3 => ⟨ω3, δ3, q, s3, k2.trans (kn.trans k3)⟩⟩
      · rintro σ' H' ⟨ω2, δ2, hI, s2, k2⟩
        rw [hr.len] at hI
        exact f.nx ω2 δ2 σ' H' (ie ω2 δ2 hI) s2 (k1.trans k2))
end
end DL

namespace DL
open PySem PySem.Spec L2
/-! ## a list or a tuple -/
def seqD : PyData → Option (List PyData)
  | .list ds => some ds
  | .tuple ds => some ds
  | _ => none
theorem seq_isi (d : PyData) : (isT .list d || isT .tuple d) = (seqD d).isSome := by cases d <;> rfl
theorem seq_len {d : PyData} {ds : List PyData} (h : seqD d = some ds) : lenD d = some ds.length := by cases d <;> cases h <;> rfl
section
variable {X : Cx} {ω : Ow} {δ : Env} {e a b c elt iter test : Expr} {st : Stmt} {body : List Stmt} {E : En} {Φ : Ow → Cell → Prop} {pos p1 p2 p3 : Pos} {x : Str} {scope : Scope}
theorem s_forA (j : Nat) (d : PyData) {ds : List PyData} (hd : seqD d = some ds) (hp : PassesOwn (model X.prog X.w) X.A X.env X.xe) (hc : X.calm = true) (hn : X.N.Nodup)
    (h : N X ω δ iter fun ω1 c => c = .dat d ∧ ∃ I : Nat → Ow → Env → Prop, I 0 ω1 δ ∧
      (∀ i ω2 δ2 d, ds[i]? = some d → I i ω2 δ2 → B X ω2 (δ2.set j (some (.dat d))) body { nx := I (i + 1), ct := I (i + 1), bk := E.nx, rt := E.rt }) ∧ ∀ ω2 δ2, I ds.length ω2 δ2 → E.nx ω2 δ2)
    (hN : X.N[j]? = some x := by rfl) (hx : Loc X.env.scope x := by first | exact Or.inl rfl | exact Or.inr rfl) (hf : X.fn x = true ∨ X.env.scope.names.lookup x = some .local := by first | exact .inl rfl | exact .inr rfl | assumption)
    (hs : ∀ z, foldedSetIterable iter X.env z = pure z := by intro _; rfl) : S X ω δ (.For (.Name x p1) iter body [] pos) E := by
  cases d with
  | list xs => cases hd; exact s_forD j hp hc hn (h.imp fun ω1 c ⟨e, r⟩ => ⟨_, e, r⟩) hN hx hf hs
  | tuple xs => cases hd; exact s_forT j hp hc hn (h.imp fun ω1 c ⟨e, r⟩ => ⟨_, e, r⟩) hN hx hf hs
  | _ => cases hd
theorem n_lcA (j : Nat) (d : PyData) {ds : List PyData} (hd : seqD d = some ds) (hc : X.calm = true) (hn : X.N.Nodup) (hb : BlkOk X.N X.env.scope scope [(x, j)])
    (h : N X ω δ iter fun ω1 c => c = .dat d ∧ ∃ J : Nat → Ow → List PyData → Prop, J 0 ω1 [] ∧
      (∀ i ω2 acc D d0, ds[i]? = some d0 → J i ω2 acc → BlkF X scope fun Y => N Y ((D, lstP acc) :: ω2) ((δ.set j none).set j (some (.dat d0))) elt fun ω3 c => ∃ d, c = .dat d ∧ acc.length < 100000 ∧ ∃ ω4, ω3 = (D, lstP acc) :: ω4 ∧ J (i + 1) ω4 (acc ++ [d])) ∧
      ∀ ω2 acc, J ds.length ω2 acc → Φ ω2 (.dat (.list acc)))
    (hgt : BlkF X scope fun Y => PG Y (.Name x p1) (gName j)) (hs : ∀ y, foldedSetIterable iter X.env y = pure y := by intro _; rfl) : N X ω δ (.ListComp elt [{ target := .Name x p1, iter := iter, ifs := [], is_async := 0 }] scope pos) Φ := by
  cases d with
  | list xs => cases hd; exact n_lcL j hc hn hb (h.imp fun ω1 c ⟨e, r⟩ => ⟨_, e, r⟩) hgt hs
  | tuple xs => cases hd; exact n_lcT j hc hn hb (h.imp fun ω1 c ⟨e, r⟩ => ⟨_, e, r⟩) hgt hs
  | _ => cases hd
theorem n_lcAi (j : Nat) (d : PyData) {ds : List PyData} (hd : seqD d = some ds) (hc : X.calm = true) (hn : X.N.Nodup) (hb : BlkOk X.N X.env.scope scope [(x, j)])
    (h : N X ω δ iter fun ω1 c => c = .dat d ∧ ∃ J : Nat → Ow → List PyData → Prop, J 0 ω1 [] ∧
      (∀ i ω2 acc D d0, ds[i]? = some d0 → J i ω2 acc → BlkF X scope fun Y => NT Y ((D, lstP acc) :: ω2) ((δ.set j none).set j (some (.dat d0))) test fun ω3 k =>
        if k = true then BlkF X scope fun Y => N Y ω3 ((δ.set j none).set j (some (.dat d0))) elt fun ω3 c => ∃ d, c = .dat d ∧ acc.length < 100000 ∧ ∃ ω4, ω3 = (D, lstP acc) :: ω4 ∧ J (i + 1) ω4 (acc ++ [d]) else ∃ ω4, ω3 = (D, lstP acc) :: ω4 ∧ J (i + 1) ω4 acc) ∧
      ∀ ω2 acc, J ds.length ω2 acc → Φ ω2 (.dat (.list acc)))
    (hgt : BlkF X scope fun Y => PG Y (.Name x p1) (gName j)) (hs : ∀ y, foldedSetIterable iter X.env y = pure y := by intro _; rfl) : N X ω δ (.ListComp elt [{ target := .Name x p1, iter := iter, ifs := [test], is_async := 0 }] scope pos) Φ := by
  cases d with
  | list xs => cases hd; exact n_lcLi j hc hn hb (h.imp fun ω1 c ⟨e, r⟩ => ⟨_, e, r⟩) hgt hs
  | tuple xs => cases hd; exact n_lcTi j hc hn hb (h.imp fun ω1 c ⟨e, r⟩ => ⟨_, e, r⟩) hgt hs
  | _ => cases hd
end
section
variable {X : Cx} {ω : Ow} {δ : Env} {a b c e : Expr} {body : List Stmt} {E : En} {pos p1 p2 p3 p4 p5 : Pos} {x y : Str} {kk : Nat}
theorem s_forEnA (j l : Nat) (d : PyData) {ds : List PyData} (hd : seqD d = some ds) (hp : PassesOwn (model X.prog X.w) X.A X.env X.xe) (hc : X.calm = true) (hn : X.N.Nodup) (hm : X.mg "enumerate" = none)
    (h : N X ω δ a fun ω1 c => c = .dat d ∧ ∃ I : Nat → Ow → Env → Prop, I 0 ω1 δ ∧
      (∀ i ω2 δ2 d, ds[i]? = some d → I i ω2 δ2 → B X ω2 ((δ2.set j (some (.dat (.int (i : Int))))).set l (some (.dat d))) body { nx := I (i + 1), ct := I (i + 1), bk := E.nx, rt := E.rt }) ∧ ∀ ω2 δ2, I ds.length ω2 δ2 → E.nx ω2 δ2)
    (hg : Gl X "enumerate" := by rfl) (ha : starEach [a] X.env = [(false, eval a X.env)] := by rfl) (ha2 : starEach [a] X.env = (false, eval a X.env) :: starEach [] X.env := by rfl) (hN : X.N[j]? = some x := by rfl) (hN2 : X.N[l]? = some y := by rfl)
    (hx : Loc X.env.scope x := by first | exact Or.inl rfl | exact Or.inr rfl) (hy : Loc X.env.scope y := by first | exact Or.inl rfl | exact Or.inr rfl)
    (hf : X.fn x = true ∨ X.env.scope.names.lookup x = some .local := by first | exact .inl rfl | exact .inr rfl | assumption) (hf2 : X.fn y = true ∨ X.env.scope.names.lookup y = some .local := by first | exact .inl rfl | exact .inr rfl | assumption)
    (h1 : (assignEach [.Name x p1, .Name y p2] X.env).map (·.2) = assign (.Name x p1) X.env :: (assignEach [.Name y p2] X.env).map (·.2) := by rfl) (h2 : (assignEach [.Name y p2] X.env).map (·.2) = assign (.Name y p2) X.env :: (assignEach [] X.env).map (·.2) := by rfl)
    (h3 : (assignEach [.Name x p1, .Name y p2] X.env).length = 2 := by rfl) (h4 : (assignEach [.Name x p1, .Name y p2] X.env).findIdx? (·.1) = none := by rfl)
    (hs : ∀ z, foldedSetIterable (.Call (.Name "enumerate" p4) [a] [] p5) X.env z = pure z := by intro _; rfl) : S X ω δ (.For (.Tuple [.Name x p1, .Name y p2] kk p3) (.Call (.Name "enumerate" p4) [a] [] p5) body [] pos) E := by
  cases d with
  | list xs => cases hd; exact s_forEn j l hp hc hn hm (h.imp fun ω1 c ⟨e, r⟩ => ⟨_, e, r⟩) hg ha ha2 hN hN2 hx hy hf hf2 h1 h2 h3 h4 hs
  | tuple xs => cases hd; exact s_forEnT j l hp hc hn hm (h.imp fun ω1 c ⟨e, r⟩ => ⟨_, e, r⟩) hg ha ha2 hN hN2 hx hy hf hf2 h1 h2 h3 h4 hs
  | _ => cases hd
theorem s_forZA (j l : Nat) (d2 : PyData) {es : List PyData} (hd : seqD d2 = some es) (hp : PassesOwn (model X.prog X.w) X.A X.env X.xe) (hc : X.calm = true) (hn : X.N.Nodup) (hm : X.mg "zip" = none)
    (h : N X ω δ a fun ω0 c0 => N X ω0 δ b fun ω1 c => ∃ ds, c0 = .dat (.list ds) ∧ c = .dat d2 ∧ ds.length = es.length ∧ ∃ I : Nat → Ow → Env → Prop, I 0 ω1 δ ∧
      (∀ i ω2 δ2 d e, ds[i]? = some d → es[i]? = some e → I i ω2 δ2 → B X ω2 ((δ2.set j (some (.dat d))).set l (some (.dat e))) body { nx := I (i + 1), ct := I (i + 1), bk := E.nx, rt := E.rt }) ∧ ∀ ω2 δ2, I ds.length ω2 δ2 → E.nx ω2 δ2)
    (hg : Gl X "zip" := by rfl) (ha : starEach [a, b] X.env = (false, eval a X.env) :: starEach [b] X.env := by rfl) (ha2 : starEach [b] X.env = (false, eval b X.env) :: starEach [] X.env := by rfl) (hpl : (backTo p5 (starEach [b] X.env)).any (·.1) = false := by rfl) (hN : X.N[j]? = some x := by rfl) (hN2 : X.N[l]? = some y := by rfl)
    (hx : Loc X.env.scope x := by first | exact Or.inl rfl | exact Or.inr rfl) (hy : Loc X.env.scope y := by first | exact Or.inl rfl | exact Or.inr rfl)
    (hf : X.fn x = true ∨ X.env.scope.names.lookup x = some .local := by first | exact .inl rfl | exact .inr rfl | assumption) (hf2 : X.fn y = true ∨ X.env.scope.names.lookup y = some .local := by first | exact .inl rfl | exact .inr rfl | assumption)
    (h1 : (assignEach [.Name x p1, .Name y p2] X.env).map (·.2) = assign (.Name x p1) X.env :: (assignEach [.Name y p2] X.env).map (·.2) := by rfl) (h2 : (assignEach [.Name y p2] X.env).map (·.2) = assign (.Name y p2) X.env :: (assignEach [] X.env).map (·.2) := by rfl)
    (h3 : (assignEach [.Name x p1, .Name y p2] X.env).length = 2 := by rfl) (h4 : (assignEach [.Name x p1, .Name y p2] X.env).findIdx? (·.1) = none := by rfl)
    (hs : ∀ z, foldedSetIterable (.Call (.Name "zip" p4) [a, b] [] p5) X.env z = pure z := by intro _; rfl) : S X ω δ (.For (.Tuple [.Name x p1, .Name y p2] kk p3) (.Call (.Name "zip" p4) [a, b] [] p5) body [] pos) E := by
  cases d2 with
  | list xs => cases hd; exact s_forZL j l hp hc hn hm (h.imp fun ω0 c0 h1 => h1.imp fun ω1 c ⟨ds, e0, e, r⟩ => ⟨ds, _, e0, e, r⟩) hg ha ha2 hpl hN hN2 hx hy hf hf2 h1 h2 h3 h4 hs
  | tuple xs => cases hd; exact s_forZM j l hp hc hn hm (h.imp fun ω0 c0 h1 => h1.imp fun ω1 c ⟨ds, e0, e, r⟩ => ⟨ds, _, e0, e, r⟩) hg ha ha2 hpl hN hN2 hx hy hf hf2 h1 h2 h3 h4 hs
  | _ => cases hd
end
/-! ## what is owned, in another order -/
theorem hid_perm {O O' : List Addr} (p : O.Perm O') (H : Hp) : hid O H = hid O' H := by
  funext a
  unfold hid
  by_cases h : a ∈ O
  · rw [if_pos h, if_pos (p.mem_iff.mp h)]
  · rw [if_neg h, if_neg (fun z => h (p.mem_iff.mpr z))]
theorem OwnOk.perm {K : PySem.W.Frag} {ω ω' : Ow} {H : Hp} (s : OwnOk K ω H) (p : ω.Perm ω') : OwnOk K ω' H := by
  have pd : (dom ω).Perm (dom ω') := p.map _
  refine ⟨pd.nodup_iff.mp s.nd, fun a P q => ?_⟩
  obtain ⟨u, h1, h2⟩ := s.at_ a P (p.mem_iff.mpr q)
  exact ⟨u, h1, by rw [← hid_perm pd]; exact h2⟩
theorem kp_perm {ω ω' : Ow} {H : Hp} (p : ω.Perm ω') : Kp (dom ω) H (dom ω') H := by
  show Same _ _
  rw [hid_perm (p.map (·.1)) H]
  exact Same.refl _
theorem StOk.perm {K : PySem.W.Frag} {ω ω' : Ow} {δ : Env} {σ : St} {H : Hp} (s : StOk K ω δ σ H) (p : ω.Perm ω') : StOk K ω' δ σ H := ⟨s.env.mono (kp_perm p), s.own.perm p⟩
theorem b_perm {X : Cx} {ω ω' : Ow} {δ : Env} {sts : List Stmt} {E : En} (p : ω.Perm ω') (h : B X ω' δ sts E) : B X ω δ sts E := fun σ H D s f => h σ H D (s.perm p) (f.after (kp_perm p))
/-! ## lists of lists of one's own -/
def rawP (as : List Addr) : OwnP := ⟨fun _ _ o => o = .lst (as.map V.ref), fun _ _ _ _ _ h => h⟩
abbrev LL := List (Addr × List PyData)
abbrev lolO (L : LL) : Ow := L.map fun x => (x.1, lstP x.2)
abbrev lolD (L : LL) : List PyData := L.map fun x => .list x.2
theorem dom_app (a b : Ow) : dom (a ++ b) = dom a ++ dom b := List.map_append
theorem dom_lol (L : LL) : dom (lolO L) = L.map (·.1) := by simp [dom, lolO]
theorem OwnOk.absorb {K : PySem.W.Frag} {p : Addr} {L : LL} {ω : Ow} {H : Hp} (s : OwnOk K ((p, rawP (L.map (·.1))) :: (lolO L ++ ω)) H) : OwnOk K ((p, lstP (lolD L)) :: ω) H ∧ Kp (dom ((p, rawP (L.map (·.1))) :: (lolO L ++ ω))) H (dom ((p, lstP (lolD L)) :: ω)) H := by
  have hd : dom ((p, rawP (L.map (·.1))) :: (lolO L ++ ω)) = p :: (L.map (·.1) ++ dom ω) := by
    show p :: dom (lolO L ++ ω) = _
    rw [dom_app, dom_lol]
  have nd := s.nd
  rw [hd] at nd
  obtain ⟨np, nd2⟩ := List.nodup_cons.mp nd
  obtain ⟨nl, nw, dj⟩ := List.nodup_append.mp nd2
  have kk : Kp (dom ((p, rawP (L.map (·.1))) :: (lolO L ++ ω))) H (p :: dom ω) H := fun b u q => by
    obtain ⟨h1, h2⟩ := hid_some q
    rw [hd] at h1
    rw [hid_out fun z => h1 ?_]
    · exact h2
    · rcases List.mem_cons.mp z with rfl | z
      · exact List.mem_cons_self
      · exact List.mem_cons_of_mem _ (List.mem_append_right _ z)
  have inner : ∀ M : LL, (∀ x ∈ M, x ∈ L) → RpA K (hid (p :: dom ω) H) ((M.map (·.1)).map V.ref) (lolD M) := by
    intro M
    induction M with
    | nil => intro _; exact .nil
    | cons x r ih =>
      intro hM
      have hx := hM x List.mem_cons_self
      obtain ⟨o, h1, vs, rfl, h2⟩ := s.at_ x.1 (lstP x.2) (List.mem_cons_of_mem _ (List.mem_append_left _ (List.mem_map.mpr ⟨x, hx, rfl⟩)))
      have hx1 : x.1 ∈ L.map (·.1) := List.mem_map.mpr ⟨x, hx, rfl⟩
      have hout : x.1 ∉ p :: dom ω := fun z => by
        rcases List.mem_cons.mp z with z | z
        · exact np (by rw [← z]; exact List.mem_append_left _ hx1)
        · exact dj _ hx1 _ z rfl
      exact .cons (.lst (by rw [hid_out hout]; exact h1) (h2.mono kk)) (ih fun y hy => hM y (List.mem_cons_of_mem _ hy))
  refine ⟨⟨List.nodup_cons.mpr ⟨fun z => np (List.mem_append_right _ z), nw⟩, fun a P q => ?_⟩, kk⟩
  rcases List.mem_cons.mp q with e | q
  · cases e
    obtain ⟨o, h1, h2⟩ := s.at_ p _ List.mem_cons_self
    exact ⟨o, h1, _, h2, inner L fun _ h => h⟩
  · obtain ⟨u, h1, h2⟩ := s.at_ a P (List.mem_cons_of_mem _ (List.mem_append_right _ q))
    exact ⟨u, h1, P.mono _ _ _ _ kk h2⟩
theorem b_absorb {X : Cx} {p : Addr} {L : LL} {ω : Ow} {δ : Env} {sts : List Stmt} {E : En} (h : B X ((p, lstP (lolD L)) :: ω) δ sts E) : B X ((p, rawP (L.map (·.1))) :: (lolO L ++ ω)) δ sts E := fun σ H D s f => by
  obtain ⟨o, k⟩ := s.own.absorb
  exact h σ H D ⟨s.env.mono k, o⟩ (f.after k)
section
variable {X : Cx} {ω : Ow} {δ : Env} {e o a b c elt iter : Expr} {E : En} {Φ : Ow → Cell → Prop} {pos p1 p2 p3 : Pos} {x : Str} {scope : Scope}
/-- [elt for x in a list], each elt a new list of one's own -/
theorem t_lcLL (j : Nat)
    (h : N X ω δ iter fun ω1 c => ∃ ds, c = .dat (.list ds) ∧ ds.length ≤ 1000 ∧ ∃ f : PyData → List PyData,
      (∀ d0 ∈ ds, ∀ ω2, BlkF X scope fun Y => N Y ω2 ((δ.set j none).set j (some (.dat d0))) elt fun ω3 c => ∃ q, c = .raw (.ref q) ∧ ω3 = (q, lstP (f d0)) :: ω2) ∧
      ∀ (D : Addr) (L : LL), L.map (·.2) = ds.map f → Φ ((D, rawP (L.map (·.1))) :: (lolO L ++ ω1)) (.raw (.ref D))) {σ : St} {H : Hp} {Q : VK} (s : StOk X.K ω δ σ H) (q : ∀ ω' c v H', Φ ω' c → StOk X.K ω' δ σ H' → Kp (dom ω) H (dom ω') H' → CellOk X.K (dom ω') H' v c → Q v H') :
    tLc (iList X.K (WE X iter)) (gName j) tYes (fun σ H Q => BlkF X scope fun Y => WE Y elt σ H Q) [j] σ H Q :=
  h σ H _ s fun ω1 c v H1 ⟨ds, e1, hz, f, jt, je⟩ s1 k1 o1 => by
    subst e1
    cases o1 with
    | @lst l xs _ hl hr =>
      refine ⟨l, rfl, ⟨xs, SqL.of (hid_some hl).2⟩, fun D hD => ?_⟩
      have hD0 : (rawP []).ok X.K (hid (dom ω1) H1) (.lst []) := rfl
      refine lc_list (K := X.K) (a := l) (xs := xs) (g := gName j) (tt := tYes) (te := fun σ H Q => BlkF X scope fun Y => WE Y elt σ H Q) (vs := [j]) (σ := σ) (H1 := H1) (D := D) (Qd := fun H => Q (.ref D) H) (fun i H' => ∃ L : LL, L.map (·.2) = (ds.take i).map f ∧ StOk X.K ((D, rawP (L.map (·.1))) :: (lolO L ++ ω1)) δ σ H' ∧ Kp (dom ω1) H1 (dom ((D, rawP (L.map (·.1))) :: (lolO L ++ ω1))) H') ⟨[], rfl, s1.cons hD hD0, (s1.own.cons hD hD0).2⟩ ?_ ?_ ?_
      · rintro i H' _ ⟨L, _, _, k2⟩
        exact SqL.of (hid_some (k2 _ _ hl)).2
      · rintro i y H' hy ⟨L, hL, s2, k2⟩
        refine ⟨set_wipe, fun s3 H3 C cl fp => ?_⟩
        obtain ⟨d0, hd0, rd0⟩ := hr.get' hy
        have sB : StOk X.K ((D, rawP (L.map (·.1))) :: (lolO L ++ ω1)) ((δ.set j none).set j (some (.dat d0))) ((wipe σ [j]).set j (some y)) H' := ⟨(s2.env.wipe j).set (c := .dat d0) (rd0.mono k2) j, s2.own⟩
        refine jt d0 (List.mem_of_getElem? hd0) _ s3 H3 C cl fp _ _ _ sB fun ω3 c v H4 ⟨r, e1, e2⟩ s4 k4 o4 => ?_
        subst e1; subst e2
        cases o4
        obtain ⟨u, m1, m2⟩ := s4.own.at_ D _ (List.mem_cons_of_mem _ List.mem_cons_self)
        obtain rfl : u = .lst ((L.map (·.1)).map V.ref) := m2
        have ho : (rawP (L.map (·.1) ++ [r])).ok X.K (hid (dom ((r, lstP (f d0)) :: (D, rawP (L.map (·.1))) :: (lolO L ++ ω1))) H4) (.lst ((L.map (·.1)).map V.ref ++ [.ref r])) := by
          show HO.lst _ = HO.lst _
          rw [List.map_append]
          rfl
        have oo := s4.own.put (i := 1) (p := D) (P := rawP (L.map (·.1))) rfl ho
        have ll : L.length ≤ 1000 := by
          have := congrArg List.length hL
          rw [List.length_map, List.length_map, List.length_take] at this
          omega
        have hp : (((r, lstP (f d0)) :: (D, rawP (L.map (·.1) ++ [r])) :: (lolO L ++ ω1)) : Ow).Perm ((D, rawP ((L ++ [(r, f d0)]).map (·.1))) :: (lolO (L ++ [(r, f d0)]) ++ ω1)) := by
          have e1 : (L ++ [(r, f d0)]).map (·.1) = L.map (·.1) ++ [r] := List.map_append
          have e2 : lolO (L ++ [(r, f d0)]) ++ ω1 = lolO L ++ ((r, lstP (f d0)) :: ω1) := by
            show (L ++ [(r, f d0)]).map _ ++ ω1 = _
            rw [List.map_append, List.append_assoc]
            rfl
          rw [e1, e2]
          refine (List.Perm.swap _ _ _).trans (List.Perm.cons _ ?_)
          exact List.perm_middle.symm
        have kq : Kp (r :: D :: dom (lolO L ++ ω1)) (upd H4 D (.lst ((L.map (·.1)).map V.ref ++ [.ref r]))) (dom ((D, rawP ((L ++ [(r, f d0)]).map (·.1))) :: (lolO (L ++ [(r, f d0)]) ++ ω1))) (upd H4 D (.lst ((L.map (·.1)).map V.ref ++ [.ref r]))) := kp_perm hp
        have kr : Kp (r :: D :: dom (lolO L ++ ω1)) H4 (r :: D :: dom (lolO L ++ ω1)) (upd H4 D (.lst ((L.map (·.1)).map V.ref ++ [.ref r]))) := kp_upd (List.mem_cons_of_mem _ List.mem_cons_self)
        have km := kr.trans kq
        refine ⟨_, m1, by rw [List.length_map, List.length_map]; exact Nat.lt_of_le_of_lt ll (by decide), L ++ [(r, f d0)], ?_, ⟨s2.env.mono (k4.trans km), oo.perm hp⟩, (k2.trans k4).trans km⟩
        rw [List.map_append, hL, List.take_add_one, hd0, List.map_append]
        rfl
      · rintro H' ⟨L, hL, s2, k2⟩
        rw [hr.len, List.take_length] at hL
        exact q _ _ _ H' (je D L hL) s2 (k1.trans k2) rfl
theorem n_lcLL (j : Nat) (hc : X.calm = true) (hn : X.N.Nodup) (hb : BlkOk X.N X.env.scope scope [(x, j)])
    (h : N X ω δ iter fun ω1 c => ∃ ds, c = .dat (.list ds) ∧ ds.length ≤ 1000 ∧ ∃ f : PyData → List PyData,
      (∀ d0 ∈ ds, ∀ ω2, BlkF X scope fun Y => N Y ω2 ((δ.set j none).set j (some (.dat d0))) elt fun ω3 c => ∃ q, c = .raw (.ref q) ∧ ω3 = (q, lstP (f d0)) :: ω2) ∧
      ∀ (D : Addr) (L : LL), L.map (·.2) = ds.map f → Φ ((D, rawP (L.map (·.1))) :: (lolO L ++ ω1)) (.raw (.ref D)))
    (hgt : BlkF X scope fun Y => PG Y (.Name x p1) (gName j)) (hs : ∀ y, foldedSetIterable iter X.env y = pure y := by intro _; rfl) : N X ω δ (.ListComp elt [{ target := .Name x p1, iter := iter, ifs := [], is_async := 0 }] scope pos) Φ :=
  n_lift (pe_lc (own := [(x, j)]) (g := gName j) (te := fun σ H Q => BlkF X scope fun Y => WE Y elt σ H Q) hc hn (pi_list (WE.pe X iter)) hb hgt (fun _ _ _ _ _ => pts_nil) (fun s H C cl fp => ⟨fun pins s' σ' H' Q I q => q s H C cl fp pins s' I⟩) hs) fun σ H Q s q => t_lcLL j h s q
/-- o[k], o a list of addresses -/
theorem n_ixR (hp : PlainIx b) (i n : Nat) {p : Addr} (hd : δ[i]? = some (some (.raw (.ref p)))) (h : N X ω δ b fun ω2 c2 => ∃ as k q, ω2[n]? = some (p, rawP as) ∧ c2 = .dat (.int k) ∧ atI as k = some q ∧ Φ ω2 (.raw (.ref q))) (hN : X.N[i]? = some x := by rfl)
    (hv : Vis X.env.scope x := by first | exact Or.inl rfl | exact Or.inr (Or.inl rfl) | exact Or.inr (Or.inr rfl)) (hg : (x == ("__debug__" : Str)) = false := by decide) (hcd : (x == ("__classdict__" : Str)) = false := by decide) : N X ω δ (.Subscript (.Name x p1) b pos) Φ :=
  n_lift (pe_ix ix_list (pe_var hN hv hg hcd) (WE.pe X b) hp) fun σ H Q s q => by
    obtain ⟨v, h1, h2⟩ := s.get hd
    cases h2
    refine ⟨_, h1, h σ H _ s fun ω2 c v H2 ⟨as, k, r, hw, e1, hi, f⟩ s2 k2 o2 => ?_⟩
    subst e1
    cases int_of o2
    obtain ⟨u, g1, g2⟩ := s2.own.at_ p _ (List.mem_of_getElem? hw)
    obtain rfl : u = .lst (as.map V.ref) := g2
    have hat : atI (as.map V.ref) k = some (.ref r) := by
      unfold atI at hi ⊢
      rw [List.length_map]
      cases z : ixN as.length k with
      | none => rw [z] at hi; cases hi
      | some m =>
        rw [z] at hi
        have hi' : as[m]? = some r := hi
        show (as.map V.ref)[m]? = _
        rw [List.getElem?_map, hi']
        rfl
    exact ⟨p, _, k, _, rfl, rfl, SqL.of g1, hat, q ω2 _ _ H2 f s2 k2 rfl⟩
/-- o[k] = e, where o is told by an expression and is one's own -/
theorem s_setE (h : N X ω δ e fun ω1 c1 => N X ω1 δ o fun ω2 co => ∃ q m, co = .raw (.ref q) ∧ N X ω2 δ b fun ω3 c2 => ∃ ds d k j, ω3[m]? = some (q, lstP ds) ∧ c1 = .dat d ∧ c2 = .dat (.int k) ∧ ixN ds.length k = some j ∧ E.nx (ω3.set m (q, lstP (ds.set j d))) δ)
    (hs : swapsWithSole [.Subscript o b p2] e pos.line X.env = pure false := by rfl) (hw : swappedStores [.Subscript o b p2] e X.env = pure none := by rfl) (h1 : (assignEach [.Subscript o b p2] X.env).map (·.2) = [assign (.Subscript o b p2) X.env] := by rfl)
    (ha : ∀ v, assign (.Subscript o b p2) X.env v = (do
      let ov ← holding [v] (eval o X.env)
      let iv ← holding [v, ov] (eval b X.env)
      standAt p2
      holding [v, ov, iv] (setItem ov iv v)
      release [v, ov, iv] []) := by intro _; rfl) : S X ω δ (.Assign [.Subscript o b p2] e pos) E := fun σ H D s f =>
  WS.of (ps_asg (WE.pe X e) (pg_sub (WE.pe X o) (WE.pe X b) set_list ha) hs hw h1) (h σ H _ s fun ω1 c1 v1 H1 f1 s1 k1 o1 => by
    refine f1 σ H1 _ s1 fun ω2 co vo H2 ⟨q, m, eo, f2⟩ s2 k2 o2 => ?_
    subst eo
    cases o2
    refine f2 σ H2 _ s2 fun ω3 c2 v2 H3 ⟨ds, d, k, j, hw3, e1, e2, hj, qq⟩ s3 k3 o3 => ?_
    subst e1; subst e2
    cases int_of o3
    obtain ⟨u, m1, vs, rfl, m2⟩ := s3.own.at_ q _ (List.mem_of_getElem? hw3)
    have m3 : Rp X.K (hid (dom ω3) H3) v1 d := (o1.mono (c := .dat d) k2).mono k3
    refine ⟨q, vs, k, j, rfl, rfl, m1, by rw [m2.len]; exact hj, ?_⟩
    exact f.nx _ _ _ _ qq (s3.put hw3 ⟨_, rfl, m2.set m3 j⟩) (by rw [dom_set hw3]; exact ((k1.trans k2).trans k3).trans (kp_upd (mem_dom hw3))))
end
/-- an owned list of lists, at one of them -/
theorem lol_at {L : LL} {ω : Ow} {p q : Addr} {P : OwnP} {k : Nat} {ds : List PyData} (h : L[k]? = some (q, ds)) : (((p, P) :: (lolO L ++ ω)) : Ow)[k + 1]? = some (q, lstP ds) := by
  have hk : k < L.length := (List.getElem?_eq_some_iff.mp h).1
  show (lolO L ++ ω)[k]? = _
  rw [List.getElem?_append_left (by simpa [lolO] using hk)]
  simp [lolO, h]
theorem lol_set {L : LL} {ω : Ow} {p q : Addr} {k : Nat} {ds es : List PyData} (h : L[k]? = some (q, ds)) : (((p, rawP (L.map (·.1))) :: (lolO L ++ ω)) : Ow).set (k + 1) (q, lstP es) = (p, rawP ((L.set k (q, es)).map (·.1))) :: (lolO (L.set k (q, es)) ++ ω) := by
  have hk : k < L.length := (List.getElem?_eq_some_iff.mp h).1
  have e1 : (L.set k (q, es)).map (·.1) = L.map (·.1) := by
    rw [List.map_set]
    apply List.ext_getElem?
    intro i
    rw [List.getElem?_set]
    split
    · rename_i z
      subst z
      rw [if_pos (by simpa using hk), List.getElem?_map, h]
      rfl
    · rfl
  rw [e1]
  show (p, rawP _) :: (lolO L ++ ω).set k (q, lstP es) = _
  congr 1
  rw [List.set_append_left k (q, lstP es) (by simpa [lolO] using hk)]
  congr 1
  show (L.map _).set k _ = (L.set k _).map _
  rw [List.map_set]
end DL

namespace DL
open PySem PySem.Spec L2
section
variable {X : Cx} {ω : Ow} {δ : Env} {a : Expr} {Φ : Ow → Cell → Prop} {pos p1 p2 p3 : Pos} {k : Nat}
theorem RpA.rev {K : PySem.W.Frag} {H : Hp} : ∀ {vs : List V} {ds : List PyData}, RpA K H vs ds → RpA K H vs.reverse ds.reverse
  | _, _, .nil => .nil
  | _, _, .cons h r => by
    rw [List.reverse_cons, List.reverse_cons]
    exact (RpA.rev r).append (.cons h .nil)
/-- a[::-1], a list -/
theorem n_revL (h : N X ω δ a fun ω1 c => ∃ ds, c = .dat (.list ds) ∧ Φ ω1 (.dat (.list ds.reverse))) : N X ω δ (.Subscript a (.Slice none none (some (.UnaryOp .USub (.Constant (.int 1) k p1) p2)) p3) pos) Φ :=
  n_lift (pe_revL (WE.pe X a)) fun σ H Q s q => h σ H _ s fun ω1 c v H1 ⟨ds, e1, f⟩ s1 k1 o1 => by
    subst e1
    cases o1 with
    | @lst p xs _ hl hr =>
      refine ⟨p, xs, rfl, SqL.of (hid_some hl).2, fun p2 hp => ?_⟩
      exact q ω1 _ _ _ f (s1.new hp) (k1.trans (kp_new s1.own hp)) (new_lst s1.own hp hr.rev)
theorem nt_eqE {b : Expr} (hu : X.A.units + 64 < cLine) {Ψ : Ow → Bool → Prop} (h : N X ω δ a fun ω1 c1 => N X ω1 δ b fun ω2 c2 => ∃ ds, c1 = .dat (.list ds) ∧ c2 = .dat (.list []) ∧ Ψ ω2 (decide (ds = []))) : NT X ω δ (.Compare a [.Eq] [b] pos) Ψ :=
  nt_cop (op_eqE hu) (nomark _) (h.imp fun _ _ h1 => h1.imp fun _ _ ⟨ds, e1, e2, f⟩ => op2_eqE ⟨ds, e1, e2, isB.mk f⟩)
end
end DL

namespace K21
open PySem PySem.Spec L2 DL
def top (i : Nat) : Stmt := PySem.Challenge.pw_longsheet_k21_sheets_refused.main.body.getD i (.Pass ⟨0, 0, 0, 0⟩)
def inC : Stmt → List Stmt
  | .ClassDef _ _ _ body _ _ _ _ _ _ _ => body
  | _ => []
abbrev s__wall : Stmt := top 0
abbrev N__wall : List Str := ["k"]
theorem sc__wall : FnScope N__wall ["k"] (defScope s__wall) := ⟨rfl, rfl, rfl, by decide +kernel, rfl, by decide +kernel, by decide +kernel⟩
abbrev s_is_integer : Stmt := top 8
abbrev N_is_integer : List Str := ["thing"]
theorem sc_is_integer : FnScope N_is_integer ["thing"] (defScope s_is_integer) := ⟨rfl, rfl, rfl, by decide +kernel, rfl, by decide +kernel, by decide +kernel⟩
abbrev s_is_number : Stmt := top 9
abbrev N_is_number : List Str := ["thing"]
theorem sc_is_number : FnScope N_is_number ["thing"] (defScope s_is_number) := ⟨rfl, rfl, rfl, by decide +kernel, rfl, by decide +kernel, by decide +kernel⟩
abbrev s_is_made : Stmt := top 11
abbrev N_is_made : List Str := ["thing", "word", "many"]
theorem sc_is_made : FnScope N_is_made ["thing", "word", "many"] (defScope s_is_made) := ⟨rfl, rfl, rfl, by decide +kernel, rfl, by decide +kernel, by decide +kernel⟩
abbrev s_is_name : Stmt := top 12
abbrev N_is_name : List Str := ["thing"]
theorem sc_is_name : FnScope N_is_name ["thing"] (defScope s_is_name) := ⟨rfl, rfl, rfl, by decide +kernel, rfl, by decide +kernel, by decide +kernel⟩
abbrev s_is_range : Stmt := top 13
abbrev N_is_range : List Str := ["thing"]
theorem sc_is_range : FnScope N_is_range ["thing"] (defScope s_is_range) := ⟨rfl, rfl, rfl, by decide +kernel, rfl, by decide +kernel, by decide +kernel⟩
abbrev s__is_column_part : Stmt := top 14
abbrev N__is_column_part : List Str := ["thing"]
theorem sc__is_column_part : FnScope N__is_column_part ["thing"] (defScope s__is_column_part) := ⟨rfl, rfl, rfl, by decide +kernel, rfl, by decide +kernel, by decide +kernel⟩
abbrev s__is_row_part : Stmt := top 15
abbrev N__is_row_part : List Str := ["thing"]
theorem sc__is_row_part : FnScope N__is_row_part ["thing"] (defScope s__is_row_part) := ⟨rfl, rfl, rfl, by decide +kernel, rfl, by decide +kernel, by decide +kernel⟩
abbrev s__is_way : Stmt := top 16
abbrev N__is_way : List Str := ["thing"]
theorem sc__is_way : FnScope N__is_way ["thing"] (defScope s__is_way) := ⟨rfl, rfl, rfl, by decide +kernel, rfl, by decide +kernel, by decide +kernel⟩
abbrev s__is_count : Stmt := top 17
abbrev N__is_count : List Str := ["thing", "word"]
theorem sc__is_count : FnScope N__is_count ["thing", "word"] (defScope s__is_count) := ⟨rfl, rfl, rfl, by decide +kernel, rfl, by decide +kernel, by decide +kernel⟩
abbrev s__is_end : Stmt := top 18
abbrev N__is_end : List Str := ["thing"]
theorem sc__is_end : FnScope N__is_end ["thing"] (defScope s__is_end) := ⟨rfl, rfl, rfl, by decide +kernel, rfl, by decide +kernel, by decide +kernel⟩
abbrev s_is_formula : Stmt := top 24
abbrev N_is_formula : List Str := ["thing", "word", "rest"]
theorem sc_is_formula : FnScope N_is_formula ["thing"] (defScope s_is_formula) := ⟨rfl, rfl, rfl, by decide +kernel, rfl, by decide +kernel, by decide +kernel⟩
abbrev s_fits : Stmt := top 25
abbrev N_fits : List Str := ["formula", "place", "read"]
theorem sc_fits : FnScope N_fits ["formula", "place"] (defScope s_fits) := ⟨rfl, rfl, rfl, by decide +kernel, rfl, by decide +kernel, by decide +kernel⟩
abbrev s_parts : Stmt := top 26
abbrev N_parts : List Str := ["formula", "word"]
theorem sc_parts : FnScope N_parts ["formula"] (defScope s_parts) := ⟨rfl, rfl, rfl, by decide +kernel, rfl, by decide +kernel, by decide +kernel⟩
abbrev s_reads : Stmt := top 27
abbrev N_reads : List Str := ["formula", "part", "read"]
theorem sc_reads : FnScope N_reads ["formula"] (defScope s_reads) := ⟨rfl, rfl, rfl, by decide +kernel, rfl, by decide +kernel, by decide +kernel⟩
abbrev s_is_sign : Stmt := top 28
abbrev N_is_sign : List Str := ["thing"]
theorem sc_is_sign : FnScope N_is_sign ["thing"] (defScope s_is_sign) := ⟨rfl, rfl, rfl, by decide +kernel, rfl, by decide +kernel, by decide +kernel⟩
abbrev s_has_input : Stmt := top 29
abbrev N_has_input : List Str := ["formula", "part"]
theorem sc_has_input : FnScope N_has_input ["formula"] (defScope s_has_input) := ⟨rfl, rfl, rfl, by decide +kernel, rfl, by decide +kernel, by decide +kernel⟩
abbrev s__are_formulas : Stmt := top 30
abbrev N__are_formulas : List Str := ["things", "thing"]
theorem sc__are_formulas : FnScope N__are_formulas ["things"] (defScope s__are_formulas) := ⟨rfl, rfl, rfl, by decide +kernel, rfl, by decide +kernel, by decide +kernel⟩
abbrev s__read_fits : Stmt := top 31
abbrev N__read_fits : List Str := ["read", "place"]
theorem sc__read_fits : FnScope N__read_fits ["read", "place"] (defScope s__read_fits) := ⟨rfl, rfl, rfl, by decide +kernel, rfl, by decide +kernel, by decide +kernel⟩
abbrev s_is_column : Stmt := top 35
abbrev N_is_column : List Str := ["sheet", "thing"]
theorem sc_is_column : FnScope N_is_column ["sheet", "thing"] (defScope s_is_column) := ⟨rfl, rfl, rfl, by decide +kernel, rfl, by decide +kernel, by decide +kernel⟩
abbrev s__are_columns : Stmt := top 36
abbrev N__are_columns : List Str := ["things", "thing", "part"]
theorem sc__are_columns : FnScope N__are_columns ["things"] (defScope s__are_columns) := ⟨rfl, rfl, rfl, by decide +kernel, rfl, by decide +kernel, by decide +kernel⟩
abbrev s__law_bag : Stmt := top 38
abbrev N__law_bag : List Str := ["script", "cell"]
theorem sc__law_bag : FnScope N__law_bag ["script"] (defScope s__law_bag) := ⟨rfl, rfl, rfl, by decide +kernel, rfl, by decide +kernel, by decide +kernel⟩
abbrev s__law_take : Stmt := top 39
abbrev N__law_take : List Str := ["bag", "many", "cell", "mixed", "drawn", "begin", "second"]
theorem sc__law_take : FnScope N__law_take ["bag", "many"] (defScope s__law_take) := ⟨rfl, rfl, rfl, by decide +kernel, rfl, by decide +kernel, by decide +kernel⟩
abbrev s__law_one : Stmt := top 40
abbrev N__law_one : List Str := ["bag", "some"]
theorem sc__law_one : FnScope N__law_one ["bag", "some"] (defScope s__law_one) := ⟨rfl, rfl, rfl, by decide +kernel, rfl, by decide +kernel, by decide +kernel⟩
abbrev s__law_alike : Stmt := top 41
abbrev N__law_alike : List Str := ["found", "due"]
theorem sc__law_alike : FnScope N__law_alike ["found", "due"] (defScope s__law_alike) := ⟨rfl, rfl, rfl, by decide +kernel, rfl, by decide +kernel, by decide +kernel⟩
abbrev s__law_nested : Stmt := top 42
abbrev N__law_nested : List Str := ["many", "found", "k"]
theorem sc__law_nested : FnScope N__law_nested ["many"] (defScope s__law_nested) := ⟨rfl, rfl, rfl, by decide +kernel, rfl, by decide +kernel, by decide +kernel⟩
abbrev s__law_odd : Stmt := top 43
abbrev N__law_odd : List Str := ["bag", "some"]
theorem sc__law_odd : FnScope N__law_odd ["bag"] (defScope s__law_odd) := ⟨rfl, rfl, rfl, by decide +kernel, rfl, by decide +kernel, by decide +kernel⟩
abbrev s__law_number : Stmt := top 44
abbrev N__law_number : List Str := ["bag"]
theorem sc__law_number : FnScope N__law_number ["bag"] (defScope s__law_number) := ⟨rfl, rfl, rfl, by decide +kernel, rfl, by decide +kernel, by decide +kernel⟩
abbrev s__law_column_part : Stmt := top 45
abbrev N__law_column_part : List Str := ["bag", "kind"]
theorem sc__law_column_part : FnScope N__law_column_part ["bag"] (defScope s__law_column_part) := ⟨rfl, rfl, rfl, by decide +kernel, rfl, by decide +kernel, by decide +kernel⟩
abbrev s__law_range : Stmt := top 46
abbrev N__law_range : List Str := ["bag", "place", "low", "high"]
theorem sc__law_range : FnScope N__law_range ["bag", "place"] (defScope s__law_range) := ⟨rfl, rfl, rfl, by decide +kernel, rfl, by decide +kernel, by decide +kernel⟩
abbrev s__law_name : Stmt := top 47
abbrev N__law_name : List Str := ["bag", "place", "kind", "row"]
theorem sc__law_name : FnScope N__law_name ["bag", "place"] (defScope s__law_name) := ⟨rfl, rfl, rfl, by decide +kernel, rfl, by decide +kernel, by decide +kernel⟩
abbrev s__law_formula : Stmt := top 48
abbrev N__law_formula : List Str := ["bag", "place", "deep", "left", "kind", "some", "k", "one", "other", "then", "rest"]
theorem sc__law_formula : FnScope N__law_formula ["bag", "place", "deep", "left"] (defScope s__law_formula) := ⟨rfl, rfl, rfl, by decide +kernel, rfl, by decide +kernel, by decide +kernel⟩
abbrev s__law_whole_formula : Stmt := top 49
abbrev N__law_whole_formula : List Str := ["bag", "place", "kind", "k"]
theorem sc__law_whole_formula : FnScope N__law_whole_formula ["bag", "place"] (defScope s__law_whole_formula) := ⟨rfl, rfl, rfl, by decide +kernel, rfl, by decide +kernel, by decide +kernel⟩
abbrev s__law_is_whole : Stmt := top 50
abbrev N__law_is_whole : List Str := ["thing"]
theorem sc__law_is_whole : FnScope N__law_is_whole ["thing"] (defScope s__law_is_whole) := ⟨rfl, rfl, rfl, by decide +kernel, rfl, by decide +kernel, by decide +kernel⟩
abbrev s__law_is_part : Stmt := top 51
abbrev N__law_is_part : List Str := ["thing"]
theorem sc__law_is_part : FnScope N__law_is_part ["thing"] (defScope s__law_is_part) := ⟨rfl, rfl, rfl, by decide +kernel, rfl, by decide +kernel, by decide +kernel⟩
abbrev s__law_is_name : Stmt := top 52
abbrev N__law_is_name : List Str := ["thing", "row"]
theorem sc__law_is_name : FnScope N__law_is_name ["thing"] (defScope s__law_is_name) := ⟨rfl, rfl, rfl, by decide +kernel, rfl, by decide +kernel, by decide +kernel⟩
abbrev s__law_is_range : Stmt := top 53
abbrev N__law_is_range : List Str := ["thing", "one"]
theorem sc__law_is_range : FnScope N__law_is_range ["thing"] (defScope s__law_is_range) := ⟨rfl, rfl, rfl, by decide +kernel, rfl, by decide +kernel, by decide +kernel⟩
abbrev s__law_inner : Stmt := top 54
abbrev N__law_inner : List Str := ["thing", "word", "many"]
theorem sc__law_inner : FnScope N__law_inner ["thing"] (defScope s__law_inner) := ⟨rfl, rfl, rfl, by decide +kernel, rfl, by decide +kernel, by decide +kernel⟩
abbrev s__law_is_formula : Stmt := top 55
abbrev N__law_is_formula : List Str := ["thing", "left", "one", "inner"]
theorem sc__law_is_formula : FnScope N__law_is_formula ["thing"] (defScope s__law_is_formula) := ⟨rfl, rfl, rfl, by decide +kernel, rfl, by decide +kernel, by decide +kernel⟩
abbrev s__law_reads : Stmt := top 56
abbrev N__law_reads : List Str := ["formula", "found", "one"]
theorem sc__law_reads : FnScope N__law_reads ["formula"] (defScope s__law_reads) := ⟨rfl, rfl, rfl, by decide +kernel, rfl, by decide +kernel, by decide +kernel⟩
abbrev s__law_all_inner : Stmt := top 57
abbrev N__law_all_inner : List Str := ["formula", "found", "one"]
theorem sc__law_all_inner : FnScope N__law_all_inner ["formula"] (defScope s__law_all_inner) := ⟨rfl, rfl, rfl, by decide +kernel, rfl, by decide +kernel, by decide +kernel⟩
abbrev s__law_fits : Stmt := top 58
abbrev N__law_fits : List Str := ["formula", "place", "read"]
theorem sc__law_fits : FnScope N__law_fits ["formula", "place"] (defScope s__law_fits) := ⟨rfl, rfl, rfl, by decide +kernel, rfl, by decide +kernel, by decide +kernel⟩
abbrev s__law_sheet : Stmt := top 59
abbrev N__law_sheet : List Str := ["bag", "most", "found", "k", "above", "place"]
theorem sc__law_sheet : FnScope N__law_sheet ["bag", "most"] (defScope s__law_sheet) := ⟨rfl, rfl, rfl, by decide +kernel, rfl, by decide +kernel, by decide +kernel⟩
abbrev s__law_heard : Stmt := top 60
abbrev N__law_heard : List Str := ["thing", "e"]
theorem sc__law_heard : FnScope N__law_heard ["thing"] (defScope s__law_heard) := ⟨rfl, rfl, rfl, by decide +kernel, rfl, by decide +kernel, by decide +kernel⟩
abbrev s__law_due : Stmt := top 61
abbrev N__law_due : List Str := ["thing", "column", "one", "at", "place", "formula"]
theorem sc__law_due : FnScope N__law_due ["thing"] (defScope s__law_due) := ⟨rfl, rfl, rfl, by decide +kernel, rfl, by decide +kernel, by decide +kernel⟩
abbrev s__law_bent : Stmt := top 62
abbrev N__law_bent : List Str := ["bag", "columns", "found", "at", "one", "kind", "place"]
theorem sc__law_bent : FnScope N__law_bent ["bag", "columns"] (defScope s__law_bent) := ⟨rfl, rfl, rfl, by decide +kernel, rfl, by decide +kernel, by decide +kernel⟩
abbrev s_law : Stmt := top 63
abbrev N_law : List Str := ["script", "bag", "turn", "thing", "k", "one", "shown", "due", "given", "sheet"]
theorem sc_law : FnScope N_law ["script"] (defScope s_law) := ⟨rfl, rfl, rfl, by decide +kernel, rfl, by decide +kernel, by decide +kernel⟩
abbrev s_Sheet_init : Stmt := (inC (top 34)).getD 0 (.Pass ⟨0, 0, 0, 0⟩)
abbrev N_Sheet_init : List Str := ["self", "columns", "column", "at", "place", "formula"]
theorem sc_Sheet_init : FnScope N_Sheet_init ["self", "columns"] (defScope s_Sheet_init) := ⟨rfl, rfl, rfl, by decide +kernel, rfl, by decide +kernel, by decide +kernel⟩
abbrev s_Sheet_len : Stmt := (inC (top 34)).getD 1 (.Pass ⟨0, 0, 0, 0⟩)
abbrev N_Sheet_len : List Str := ["self"]
theorem sc_Sheet_len : FnScope N_Sheet_len ["self"] (defScope s_Sheet_len) := ⟨rfl, rfl, rfl, by decide +kernel, rfl, by decide +kernel, by decide +kernel⟩
abbrev s_Wrong_init : Stmt := (inC (top 3)).getD 0 (.Pass ⟨0, 0, 0, 0⟩)
abbrev N_Wrong_init : List Str := ["self", "place"]
theorem sc_Wrong_init : FnScope N_Wrong_init ["self", "place"] (defScope s_Wrong_init) := ⟨rfl, rfl, rfl, by decide +kernel, rfl, by decide +kernel, by decide +kernel⟩
abbrev s_NoFit_init : Stmt := (inC (top 5)).getD 0 (.Pass ⟨0, 0, 0, 0⟩)
abbrev N_NoFit_init : List Str := ["self", "place"]
theorem sc_NoFit_init : FnScope N_NoFit_init ["self", "place"] (defScope s_NoFit_init) := ⟨rfl, rfl, rfl, by decide +kernel, rfl, by decide +kernel, by decide +kernel⟩
structure Txt (K : PySem.W.Frag) (mg : Str → Option Value) : Prop where
  _wall_ : Has K mg "_wall" s__wall ["k"]
  is_integer_ : Has K mg "is_integer" s_is_integer ["thing"]
  is_number_ : Has K mg "is_number" s_is_number ["thing"]
  is_made_ : Has K mg "is_made" s_is_made ["thing", "word", "many"]
  is_name_ : Has K mg "is_name" s_is_name ["thing"]
  is_range_ : Has K mg "is_range" s_is_range ["thing"]
  _is_column_part_ : Has K mg "_is_column_part" s__is_column_part ["thing"]
  _is_row_part_ : Has K mg "_is_row_part" s__is_row_part ["thing"]
  _is_way_ : Has K mg "_is_way" s__is_way ["thing"]
  _is_count_ : Has K mg "_is_count" s__is_count ["thing", "word"]
  _is_end_ : Has K mg "_is_end" s__is_end ["thing"]
  is_formula_ : Has K mg "is_formula" s_is_formula ["thing"]
  fits_ : Has K mg "fits" s_fits ["formula", "place"]
  parts_ : Has K mg "parts" s_parts ["formula"]
  reads_ : Has K mg "reads" s_reads ["formula"]
  is_sign_ : Has K mg "is_sign" s_is_sign ["thing"]
  has_input_ : Has K mg "has_input" s_has_input ["formula"]
  _are_formulas_ : Has K mg "_are_formulas" s__are_formulas ["things"]
  _read_fits_ : Has K mg "_read_fits" s__read_fits ["read", "place"]
  is_column_ : Has K mg "is_column" s_is_column ["sheet", "thing"]
  _are_columns_ : Has K mg "_are_columns" s__are_columns ["things"]
  _law_bag_ : Has K mg "_law_bag" s__law_bag ["script"]
  _law_take_ : Has K mg "_law_take" s__law_take ["bag", "many"]
  _law_one_ : Has K mg "_law_one" s__law_one ["bag", "some"]
  _law_alike_ : Has K mg "_law_alike" s__law_alike ["found", "due"]
  _law_nested_ : Has K mg "_law_nested" s__law_nested ["many"]
  _law_odd_ : Has K mg "_law_odd" s__law_odd ["bag"]
  _law_number_ : Has K mg "_law_number" s__law_number ["bag"]
  _law_column_part_ : Has K mg "_law_column_part" s__law_column_part ["bag"]
  _law_range_ : Has K mg "_law_range" s__law_range ["bag", "place"]
  _law_name_ : Has K mg "_law_name" s__law_name ["bag", "place"]
  _law_formula_ : Has K mg "_law_formula" s__law_formula ["bag", "place", "deep", "left"]
  _law_whole_formula_ : Has K mg "_law_whole_formula" s__law_whole_formula ["bag", "place"]
  _law_is_whole_ : Has K mg "_law_is_whole" s__law_is_whole ["thing"]
  _law_is_part_ : Has K mg "_law_is_part" s__law_is_part ["thing"]
  _law_is_name_ : Has K mg "_law_is_name" s__law_is_name ["thing"]
  _law_is_range_ : Has K mg "_law_is_range" s__law_is_range ["thing"]
  _law_inner_ : Has K mg "_law_inner" s__law_inner ["thing"]
  _law_is_formula_ : Has K mg "_law_is_formula" s__law_is_formula ["thing"]
  _law_reads_ : Has K mg "_law_reads" s__law_reads ["formula"]
  _law_all_inner_ : Has K mg "_law_all_inner" s__law_all_inner ["formula"]
  _law_fits_ : Has K mg "_law_fits" s__law_fits ["formula", "place"]
  _law_sheet_ : Has K mg "_law_sheet" s__law_sheet ["bag", "most"]
  _law_heard_ : Has K mg "_law_heard" s__law_heard ["thing"]
  _law_due_ : Has K mg "_law_due" s__law_due ["thing"]
  _law_bent_ : Has K mg "_law_bent" s__law_bent ["bag", "columns"]
  law_ : Has K mg "law" s_law ["script"]
  Sheet_ : HasC K mg "Sheet"
  nf_Sheet__columns : NoAttr K (clsA mg "Sheet") "_columns"
  Sheet_init_ : HasM K mg "Sheet" "__init__" "Sheet.__init__" s_Sheet_init ["self", "columns"]
  Sheet_len_ : HasM K mg "Sheet" "__len__" "Sheet.__len__" s_Sheet_len ["self"]
  Wrong_ : HasX K mg "Wrong" "place" s_Wrong_init ["self", "place"]
  NoFit_ : HasX K mg "NoFit" "place" s_NoFit_init ["self", "place"]
  ex_Wrong_Wrong : PySem.W.exmOne K (.ref (clsA mg "Wrong")) (.ref (clsA mg "Wrong")) = some true
  ex_NoFit_Wrong : PySem.W.exmOne K (.ref (clsA mg "NoFit")) (.ref (clsA mg "Wrong")) = some false
  ex_NoFit_NoFit : PySem.W.exmOne K (.ref (clsA mg "NoFit")) (.ref (clsA mg "NoFit")) = some true
  z_isinstance : mg "isinstance" = none
  z_int : mg "int" = none
  z_bool : mg "bool" = none
  z_str : mg "str" = none
  z_tuple : mg "tuple" = none
  z_list : mg "list" = none
  z_len : mg "len" = none
  z_range : mg "range" = none
  z_abs : mg "abs" = none
  z_repr : mg "repr" = none
  z_all : mg "all" = none
  z_any : mg "any" = none
  z_enumerate : mg "enumerate" = none
  z_zip : mg "zip" = none
  c_FARTHEST : CD K mg "FARTHEST" (.int 1000000000000)
  c_SIGNS : CD K mg "SIGNS" (.tuple [.str "=", .str "<>", .str "<", .str "<=", .str ">", .str ">="])
  c_GATHERING : CD K mg "GATHERING" (.tuple [.str "sum", .str "most", .str "least"])
  c_RANGING : CD K mg "RANGING" (.tuple [.str "total", .str "many", .str "top", .str "low"])
  c_PLACES : CD K mg "PLACES" (.tuple [.str "head", .str "body", .str "foot"])
  g_SheetError : AtC K mg "SheetError"
local macro_rules | `(tactic| walk_at "dl") => `(tactic| first
  | ((with_reducible show NA _ _ _ (_ :: _) _); refine na_cons ?_)
  | ((with_reducible show NA _ _ _ [] _); refine na_nil ?_)
  | ((with_reducible show N _ _ _ (.Constant (.int _) _ _) _); refine n_int ?_)
  | ((with_reducible show N _ _ _ (.Constant (.str _) _ _) _); refine n_str ?_)
  | ((with_reducible show N _ _ _ (.Constant (.bool _) _ _) _); refine n_bl ?_)
  | ((with_reducible show N _ _ _ (.Constant .none _ _) _); refine n_non ?_)
  | ((with_reducible show N _ _ _ (.Tuple _ _ _) _); refine n_tupU ?_)
  | ((with_reducible show N _ _ _ (.List _ _) _); refine n_lstU ?_)
  | ((with_reducible show N _ _ _ (.UnaryOp .USub _ _) _); refine n_neg ?_)
  | ((with_reducible show N _ _ _ (.BinOp _ .Pow _ _) _); refine n_pow ?_)
  | ((with_reducible show N _ _ _ (.Dict [] [] _) _); refine n_dict0 ?_)
  | ((with_reducible show N _ _ _ (.BinOp (.List _ _) .Mult _ _) _); refine n_repL ?_)
  | ((with_reducible show N _ _ _ (.BinOp (.Constant (.str _) _ _) .Mult _ _) _); refine n_repX ?_)
  | ((with_reducible show N _ _ _ (.BinOp _ .Add (.Constant (.int _) _ _) _) _); refine n_add ?_))
local macro_rules | `(tactic| walk_at "dx") => `(tactic| first
  | walk_at "dl"
  | refine ⟨_, rfl, rfl, ?_⟩
  | refine ⟨_, rfl, ?_⟩
  | refine ⟨_, _, rfl, rfl, by decide, by decide, by decide, by decide, by decide +kernel, ?_⟩
  | refine ⟨_, _, rfl, rfl, by decide, by decide, by decide, ?_⟩
  | refine ⟨_, _, rfl, rfl, ⟨by decide, by decide, by decide⟩, ?_⟩
  | refine ⟨_, _, rfl, rfl, by decide, ?_⟩
  | refine ⟨_, _, rfl, rfl, ?_⟩)

section
variable {P : Program} {w : World} {K : PySem.W.Frag} {mg : Str → Option Value} {base : Heap}
theorem cut63 (ns : List Int) : (cutD ns none (some 63)).length ≤ 63 := by
  unfold cutD
  rw [List.length_take, show HT.sIx ns.length ns.length (some 63) = min 63 ns.length from HT.sIx_nat ns.length ns.length 63]
  omega
theorem r_bag (T : Txt K mg) : Rdy P w K mg base 1 "_law_bag" ["script"] bagC := by
  refine rdy T._law_bag_ sc__law_bag (fun cs ω Φ ⟨ns, e, _⟩ => by rw [e]; rfl) fun X f cdv A outer s H E hX hr cs ω Φ ⟨ns, e, q⟩ => ?_
  subst hX; subst e
  refine b_one ?_
  refine s_ret ?_
  refine n_seal bagI ?_
  refine n_lstO ?_
  refine na_cons ?_
  refine n_int ?_
  refine na_cons ?_
  refine n_int ?_
  refine na_cons ?_
  refine n_int ?_
  refine na_cons ?_
  refine n_lcL 1 rfl sc__law_bag.nd (blkOk_by (N := N__law_bag) (sc := defScope s__law_bag) (by decide +kernel)) ?_ (fun s' H' C cl fp => pg_name (i := 1) sc__law_bag.nd rfl (Or.inl rfl))
  refine n_slS ?_
  refine n_var 0 ?_
  show N _ _ _ _ _
  refine n_int ⟨63, rfl, ns, rfl, _, rfl, fun i ω2 acc => ω2 = ω ∧ ∃ ms : List Int, acc = ms.map .int ∧ ms.length = i ∧ i ≤ 63 ∧ ∀ x ∈ ms, 0 ≤ x, ⟨rfl, [], rfl, rfl, by decide, by simp⟩, ?_, ?_⟩
  · rintro i ω2 acc D d0 hd ⟨rfl, ms, rfl, hl, hi, hm⟩ s' H' C cl fp
    rw [List.getElem?_map] at hd
    cases hq : (cutD ns none (some 63))[i]? with
    | none => rw [hq] at hd; cases hd
    | some x =>
      rw [hq] at hd
      cases hd
      have hlt : i < 63 := Nat.lt_of_lt_of_le (List.getElem?_eq_some_iff.mp hq).1 (cut63 ns)
      refine n_abs T.z_abs ?_
      refine n_var 1 ⟨x, rfl, _, rfl, by rw [List.length_map]; omega, ω2, rfl, rfl, ms ++ [if x < 0 then -x else x], by rw [List.map_append]; rfl, by rw [List.length_append, hl]; rfl, by omega, ?_⟩
      intro y hy
      rcases List.mem_append.mp hy with hy | hy
      · exact hm y hy
      · rw [List.mem_singleton.mp hy]; exact abs_nn x
  · rintro ω2 acc ⟨rfl, ms, rfl, hl, hi, hm⟩
    rw [List.length_map] at hl
    have := cut63 ns
    exact na_nil ⟨[.int 0, .int 1234567891, .int 0, .list (ms.map .int)], rfl, (by show 4 ≤ 1000; decide), fun p => ⟨p, _, ω2, rfl, ⟨0, 1234567891, 0, ms, rfl, by decide, by decide, by decide, by decide, by omega, hm⟩, q p⟩⟩
theorem r_take (T : Txt K mg) : Rdy P w K mg base 1 "_law_take" ["bag", "many"] takeC := by
  refine rdy T._law_take_ sc__law_take (fun cs ω Φ ⟨n, p, m, e, _⟩ => by rw [e]; rfl) fun X f cdv A outer s H E hX hr cs ω Φ ⟨n, p, m, e, hw, m1, m2, q⟩ => ?_
  have hu := room_u64 hr
  subst hX; subst e
  refine b_open hw fun its ⟨a, b, c, ns, e, a0, b0, b1, c0, hl, hn⟩ => ?_
  subst e
  have gs : ∀ jts, (ω.set n (p, lstP jts))[n]? = some (p, lstP jts) := fun _ => get_set hw
  have sx : ∀ jts kts, (ω.set n (p, lstP jts)).set n (p, lstP kts) = ω.set n (p, lstP kts) := fun _ _ => List.set_set ..
  -- if bag[0] == 0: ..
  refine b_mid (fun ω' δ' => ∃ (a b c : Int) (x2 x3 : Option Cell), ω' = ω.set n (p, lstP [.int a, .int b, .int c, .list (ns.map .int)]) ∧ δ' = [some (.raw (.ref p)), some (.dat (.int m)), x2, x3, none, none, none] ∧ 0 ≤ a ∧ 0 ≤ b ∧ b < 2147483647 ∧ 0 ≤ c) ?_ ?_
  · refine s_if ?_
    refine nt_eq hu ?_
    refine n_ixO (fun _ _ => rfl) 0 n rfl ?_
    refine n_int ?_
    refine ⟨_, 0, _, gs _, rfl, rfl, ?_⟩
    refine n_int ⟨_, _, rfl, rfl, rfl, rfl, ?_⟩
    rw [eqv_ints]
    refine ite2 (fun ha => ?_) (fun ha => ?_)
    · -- cell = 0
      refine b_cons ?_
      refine s_set 2 sc__law_take.nd ?_
      refine n_int ?_
      -- if bag[2] < len(bag[3]): cell = bag[3][bag[2]]
      refine b_mid (fun ω' δ' => ω' = ω.set n (p, lstP [.int a, .int b, .int c, .list (ns.map .int)]) ∧ ∃ y : Int, 0 ≤ y ∧ δ' = [some (.raw (.ref p)), some (.dat (.int m)), some (.dat (.int y)), none, none, none, none]) ?_ ?_
      · refine s_if ?_
        refine nt_lt ?_
        refine n_ixO (fun _ _ => rfl) 0 n rfl ?_
        refine n_int ?_
        refine ⟨_, 2, _, gs _, rfl, rfl, ?_⟩
        refine n_len T.z_len ?_
        refine n_ixO (fun _ _ => rfl) 0 n rfl ?_
        refine n_int ?_
        refine ⟨_, 3, _, gs _, rfl, rfl, _, _, rfl, rfl, _, _, rfl, rfl, ?_⟩
        refine ite2 (fun hc => ?_) (fun hc => ?_)
        · have hc' : c < ((ns.map PyData.int).length : Int) := of_decide_eq_true hc
          obtain ⟨d, hd, _⟩ := atI_in c0 hc'
          obtain ⟨y, hy, rfl⟩ := atI_int hd
          refine b_one ?_
          refine s_set 2 sc__law_take.nd ?_
          refine n_ixl (fun _ _ => rfl) ?_
          refine n_ixO (fun _ _ => rfl) 0 n rfl ?_
          refine n_int ?_
          refine ⟨_, 3, _, gs _, rfl, rfl, ?_⟩
          refine n_ixO (fun _ _ => rfl) 0 n rfl ?_
          refine n_int ?_
          exact ⟨_, 2, _, gs _, rfl, rfl, _, _, _, rfl, rfl, hd, rfl, y, hn y hy, rfl⟩
        · exact b_nil ⟨rfl, 0, Int.le_refl 0, rfl⟩
      rintro ω' δ' ⟨rfl, y, hy, rfl⟩
      -- bag[2] += 1
      refine b_cons ?_
      refine s_augO 0 n rfl ?_
      refine n_int ?_
      refine ⟨_, 2, c, gs _, rfl, by decide, by decide, rfl, ?_⟩
      refine n_int ⟨1, gs _, rfl, ?_⟩
      rw [sx]
      -- if cell >= 10 ** 18: bag[0] = cell
      refine b_mid (fun ω' δ' => ∃ a : Int, 0 ≤ a ∧ ω' = ω.set n (p, lstP [.int a, .int b, .int (c + 1), .list (ns.map .int)]) ∧ δ' = [some (.raw (.ref p)), some (.dat (.int m)), some (.dat (.int y)), none, none, none, none]) ?_ ?_
      · refine s_if ?_
        refine nt_ge ?_
        refine n_var 2 ?_
        refine n_int ?_
        refine ⟨_, _, rfl, rfl, ?_⟩
        refine ite2 (fun _ => ?_) (fun _ => ?_)
        · refine b_one ?_
          refine s_setO 0 n rfl ?_
          refine n_var 2 ?_
          refine n_int ?_
          refine ⟨_, _, 0, 0, gs _, rfl, rfl, rfl, ?_⟩
          rw [sx]
          exact ⟨y, hy, rfl, rfl⟩
        · exact b_nil ⟨a, a0, rfl, rfl⟩
      rintro ω' δ' ⟨a', ha', rfl, rfl⟩
      -- mixed = bag[1] * 48271 + int(cell) % 2147483647 + 7919 * bag[2]
      refine b_cons ?_
      refine s_set 3 sc__law_take.nd ?_
      refine n_add ?_
      refine n_add ?_
      refine n_mul ?_
      refine n_ixO (fun _ _ => rfl) 0 n rfl ?_
      refine n_int ?_
      refine ⟨_, 1, _, gs _, rfl, rfl, ?_⟩
      refine n_int ⟨_, _, rfl, rfl, .inr (by decide), ?_⟩
      refine n_mod ?_
      refine n_intI T.z_int ?_
      refine n_var 2 ?_
      refine ⟨_, rfl, ?_⟩
      refine n_int ⟨_, _, rfl, rfl, by decide, ?_⟩
      refine ⟨_, _, rfl, rfl, ?_⟩
      refine n_mul ?_
      refine n_int ?_
      refine n_ixO (fun _ _ => rfl) 0 n rfl ?_
      refine n_int ?_
      refine ⟨_, 2, _, gs _, rfl, rfl, _, _, rfl, rfl, .inl (by decide), _, _, rfl, rfl, ?_⟩
      -- bag[1] = int(mixed) % 2147483647
      refine b_one ?_
      refine s_setO 0 n rfl ?_
      refine n_mod ?_
      refine n_intI T.z_int ?_
      refine n_var 3 ?_
      refine ⟨_, rfl, ?_⟩
      refine n_int ⟨_, _, rfl, rfl, by decide, ?_⟩
      refine n_int ⟨_, _, 1, 1, gs _, rfl, rfl, rfl, ?_⟩
      rw [sx]
      have hm := fmod_nn (a := b * 48271 + y.fmod 2147483647 + 7919 * (c + 1)) (b := 2147483647) (by decide)
      exact ⟨a', _, c + 1, _, _, rfl, rfl, ha', hm.1, hm.2, by omega⟩
    · exact b_nil ⟨a, b, c, _, _, rfl, rfl, a0, b0, b1, c0⟩
  rintro ω' δ' ⟨a, b, c, x2, x3, rfl, rfl, a0, b0, b1, c0⟩
  have back : ∀ (v a' : Int), 0 ≤ v → v < m → 0 ≤ a' → (closeE ω n p bagI { nx := fun ω' _ => Φ ω' (.dat .none), rt := Φ }).rt (ω.set n (p, lstP [.int a', .int b, .int c, .list (ns.map .int)])) (.dat (.int v)) := fun v a' v0 v1 h0 =>
    ⟨_, ⟨a', b, c, ns, rfl, h0, b0, b1, c0, hl, hn⟩, rfl, q v v0 v1⟩
  -- if bag[0] > 0: ..
  refine b_cons ?_
  refine s_if ?_
  refine nt_gt ?_
  refine n_ixO (fun _ _ => rfl) 0 n rfl ?_
  refine n_int ?_
  refine ⟨_, 0, _, gs _, rfl, rfl, ?_⟩
  refine n_int ⟨_, _, rfl, rfl, ?_⟩
  refine ite2 (fun _ => ?_) (fun _ => ?_)
  · refine b_cons ?_
    refine s_set 4 sc__law_take.nd ?_
    refine n_mod ?_
    refine n_intI T.z_int ?_
    refine n_ixO (fun _ _ => rfl) 0 n rfl ?_
    refine n_int ?_
    refine ⟨_, 0, _, gs _, rfl, rfl, _, rfl, ?_⟩
    refine n_var 1 ?_
    refine ⟨_, _, rfl, rfl, by omega, ?_⟩
    refine b_cons ?_
    refine s_setO 0 n rfl ?_
    refine n_fdiv ?_
    refine n_intI T.z_int ?_
    refine n_ixO (fun _ _ => rfl) 0 n rfl ?_
    refine n_int ?_
    refine ⟨_, 0, _, gs _, rfl, rfl, _, rfl, ?_⟩
    refine n_var 1 ?_
    refine ⟨_, _, rfl, rfl, ⟨by omega, by omega⟩, ?_⟩
    refine n_int ⟨_, _, 0, 0, gs _, rfl, rfl, rfl, ?_⟩
    rw [sx]
    refine b_one ?_
    refine s_ret ?_
    refine n_var 4 ?_
    have h := fmod_nn (a := a) (b := m) (by omega)
    exact back _ _ h.1 h.2 (fdiv_nn (by omega) a0)
  · refine b_nil ?_
    -- begin, second
    refine b_cons ?_
    refine s_set 5 sc__law_take.nd ?_
    refine n_mod ?_
    refine n_intI T.z_int ?_
    refine n_mul ?_
    refine n_add ?_
    refine n_ixO (fun _ _ => rfl) 0 n rfl ?_
    refine n_int ?_
    refine ⟨_, 1, _, gs _, rfl, rfl, ?_⟩
    refine n_int ⟨_, _, rfl, rfl, ?_⟩
    refine n_int ⟨_, _, rfl, rfl, .inr (by decide), _, rfl, ?_⟩
    refine n_int ⟨_, _, rfl, rfl, by decide, ?_⟩
    have h1 := fmod_nn (a := (b + 1) * 39373) (b := 1000000007) (by decide)
    refine b_cons ?_
    refine s_set 6 sc__law_take.nd ?_
    refine n_mod ?_
    refine n_intI T.z_int ?_
    refine n_mul ?_
    refine n_mod ?_
    refine n_intI T.z_int ?_
    refine n_mul ?_
    refine n_var 5 ?_
    refine n_var 5 ?_
    refine ⟨_, _, rfl, rfl, .inl (by omega), _, rfl, ?_⟩
    refine n_int ⟨_, _, rfl, rfl, by decide, ?_⟩
    refine n_int ⟨_, _, rfl, rfl, .inr (by decide), _, rfl, ?_⟩
    refine n_int ⟨_, _, rfl, rfl, by decide, ?_⟩
    refine b_one ?_
    refine s_ret ?_
    refine n_mod ?_
    refine n_intI T.z_int ?_
    refine n_fdiv ?_
    refine n_var 6 ?_
    refine n_int ?_
    refine ⟨_, _, rfl, rfl, ⟨by decide, by decide⟩, _, rfl, ?_⟩
    refine n_var 1 ?_
    refine ⟨_, _, rfl, rfl, by omega, ?_⟩
    have h := fmod_nn (a := ((((b + 1) * 39373).fmod 1000000007 * ((b + 1) * 39373).fmod 1000000007).fmod 998244353 * 30011).fmod 998244353 |>.fdiv 7) (b := m) (by omega)
    exact back _ a h.1 h.2 a0
end
section
variable {P : Program} {w : World} {K : PySem.W.Frag} {mg : Str → Option Value} {base : Heap}
theorem r_one (T : Txt K mg) : Rdy P w K mg base 2 "_law_one" ["bag", "some"] oneC := by
  refine rdy T._law_one_ sc__law_one (fun cs ω Φ ⟨n, p, ds, e, _⟩ => by rw [e]; rfl) fun X f cdv A outer s H E hX hr cs ω Φ ⟨n, p, ds, e, hw, hne, hl, q⟩ => ?_
  subst hX; subst e
  refine b_one ?_
  refine s_ret ?_
  refine n_ixl (fun _ _ => rfl) ?_
  refine n_var 1 ?_
  refine n_fn (r_take T) hr ?_
  refine na_cons ?_
  refine n_var 0 ?_
  refine na_cons ?_
  refine n_len T.z_len ?_
  refine n_var 1 ?_
  refine ⟨_, _, rfl, rfl, na_nil ⟨n, p, _, rfl, hw, ?_, by omega, fun v v0 v1 => ?_⟩⟩
  · have : ds.length ≠ 0 := fun z => hne (List.length_eq_zero_iff.mp z)
    omega
  · obtain ⟨d, h1, h2⟩ := atI_in v0 v1
    exact ⟨_, _, d, rfl, rfl, h1, q d (List.mem_of_getElem? h2)⟩
theorem r_nested (T : Txt K mg) : Rdy P w K mg base 1 "_law_nested" ["many"] nestC := by
  refine rdy T._law_nested_ sc__law_nested (fun cs ω Φ ⟨n, e, _⟩ => by rw [e]; rfl) fun X f cdv A outer s H E hX hr cs ω Φ ⟨n, e, hn, q⟩ => ?_
  subst hX; subst e
  refine b_cons ?_
  refine s_set 1 sc__law_nested.nd ?_
  refine n_lst ?_
  refine na_nil ?_
  refine ⟨[], rfl, by decide, ?_⟩
  refine b_cons ?_
  refine s_forR 2 PassesOwn.never rfl sc__law_nested.nd T.z_range ?_
  refine n_var 0 ?_
  refine ⟨_, rfl, by omega, by omega, fun i ω' δ' => i ≤ n ∧ ω' = ω ∧ ∃ x2, δ' = [some (.dat (.int n)), some (.dat (nestD i)), x2], ⟨by omega, rfl, none, rfl⟩, ?_, ?_⟩
  · rintro i ω' δ' hi ⟨_, rfl, x2, rfl⟩
    refine b_one ?_
    refine s_set 1 sc__law_nested.nd ?_
    refine n_lst ?_
    refine na_cons ?_
    refine n_var 1 ?_
    refine na_nil ?_
    exact ⟨[nestD i], rfl, (by show 1 ≤ 1000; decide), by omega, rfl, _, rfl⟩
  · rintro ω' δ' ⟨_, rfl, x2, rfl⟩
    refine b_one ?_
    refine s_ret ?_
    refine n_var 1 ?_
    exact q
theorem r_alike (T : Txt K mg) (hsm : ∃ m, base.Ns sysModules m) : RdG P w K mg base 1 "_law_alike" ["found", "due"] alikeC := by
  refine rdg T._law_alike_ sc__law_alike (fun cs ω Φ ⟨d, e, _⟩ => by rw [e]; rfl) fun X f cdv A outer s H E hX hg hr cs ω Φ ⟨d, e, h1, h2, q⟩ => ?_
  have hu := room_u64 hr
  have hu2 := room_u hr
  subst hX; subst e
  refine b_one ?_
  refine s_ret ?_
  refine n_and ?_
  refine n_eq hu ?_
  refine n_var 0 ?_
  refine n_var 1 ?_
  refine ⟨d, d, rfl, rfl, h1, h1, ?_⟩
  rw [SeqAt.eqv_refl d (SeqAt.canLay_of_shaped h1)]
  refine ⟨true, rfl, iteT ?_⟩
  refine n_one ?_
  refine n_eqS ?_
  refine n_repr hg hsm hu2 T.z_repr ?_
  refine n_var 0 ?_
  refine ⟨d, rfl, h2, ?_⟩
  refine n_repr hg hsm hu2 T.z_repr ?_
  refine n_var 1 ?_
  refine ⟨d, rfl, h2, _, _, rfl, rfl, ?_⟩
  show Φ ω (.dat (.bool (decide (d.shown = d.shown))))
  rw [decide_eq_true rfl]
  exact q
end
section
variable {P : Program} {w : World} {K : PySem.W.Frag} {mg : Str → Option Value} {base : Heap}
/-- shown, of a bounded depth -/
def It (n k : Nat) (d : PyData) : Prop := ShowsN n d ∧ d.depth ≤ k
def itB (n k : Nat) (d : PyData) : Bool := showsC n d && decide (d.depth ≤ k)
theorem it_of {n k : Nat} {d : PyData} (h : itB n k d = true) : It n k d := by
  unfold itB at h
  rw [Bool.and_eq_true] at h
  exact ⟨showsN_of h.1, of_decide_eq_true h.2⟩
theorem itB_of {n k : Nat} {d : PyData} (h : ShowsN n d) (h2 : d.depth ≤ k) : itB n k d = true := by
  unfold itB
  rw [showsC_of h, decide_eq_true h2]; rfl
def oddC : Con := fun cs ω Φ => ∃ (n : Nat) (p : Addr), cs = [.raw (.ref p)] ∧ ω[n]? = some (p, bagP) ∧ ∀ d, It 10000 20 d → Φ ω (.dat d)
theorem r_odd (T : Txt K mg) : Rdy P w K mg base 3 "_law_odd" ["bag"] oddC := by
  refine rdy T._law_odd_ sc__law_odd (fun cs ω Φ ⟨n, p, e, _⟩ => by rw [e]; rfl) fun X f cdv A outer s H E hX hr cs ω Φ ⟨n, p, e, hw, q⟩ => ?_
  subst hX; subst e
  refine b_cons ?_
  refine s_set 1 sc__law_odd.nd ?_
  repeat walk_at "dx"
  refine b_cons ?_
  refine s_set 1 sc__law_odd.nd ?_
  refine n_catL ?_
  refine n_var 1 ?_
  repeat walk_at "dx"
  refine b_cons ?_
  refine s_set 1 sc__law_odd.nd ?_
  refine n_catL ?_
  refine n_var 1 ?_
  repeat walk_at "dx"
  refine b_cons ?_
  refine s_set 1 sc__law_odd.nd ?_
  refine n_catL ?_
  refine n_var 1 ?_
  repeat walk_at "dx"
  refine b_cons ?_
  refine s_set 1 sc__law_odd.nd ?_
  refine n_catL ?_
  refine n_var 1 ?_
  repeat walk_at "dx"
  refine n_dict1 fun pd => ?_
  refine n_int ⟨_, .inl 0, rfl, rfl, ?_⟩
  refine n_int ⟨_, _, rfl, rfl, ?_⟩
  repeat walk_at "dx"
  refine b_cons ?_
  refine s_set 1 sc__law_odd.nd ?_
  refine n_catL ?_
  refine n_var 1 ?_
  repeat walk_at "dx"
  refine n_fn (r_nested T) hr ?_
  refine na_cons ?_
  refine n_int ?_
  refine na_nil ?_
  refine ⟨15, rfl, by decide, ?_⟩
  repeat walk_at "dx"
  intro y hy
  repeat walk_at "dx"
  refine ⟨Nat.le_of_ble_eq_true rfl, ?_⟩
  refine b_one ?_
  refine s_ret ?_
  refine n_fn (r_one T) hr ?_
  refine na_cons ?_
  refine n_var 0 ?_
  refine na_cons ?_
  refine n_var 1 ?_
  refine na_nil ?_
  refine ⟨n, p, _, rfl, hw, List.cons_ne_nil _ _, Nat.le_of_ble_eq_true rfl, fun d hd => q d (it_of (List.all_eq_true.mp ?_ d hd))⟩
  refine all_app (by decide +kernel) (all_con (by decide +kernel) (all_con (by decide +kernel) (all_con (by decide +kernel) (all_con (by decide +kernel) (all_con (by decide +kernel) (all_con (itB_of (hy.mono (by decide)) (Nat.zero_le _)) rfl))))))
end
section
variable {P : Program} {w : World} {K : PySem.W.Frag} {mg : Str → Option Value} {base : Heap}
def con1 (F : PyData → PyData) : Con := fun cs ω Φ => ∃ d, cs = [.dat d] ∧ Φ ω (.dat (F d))
theorem con1_len {F : PyData → PyData} {cs : List Cell} {ω : Ow} {Φ : Ow → Cell → Prop} (h : con1 F cs ω Φ) : cs.length = 1 := by
  obtain ⟨d, rfl, _⟩ := h
  rfl
def isIntD : PyData → Bool
  | .int _ => true
  | _ => false
theorem int_of_isInt {d : PyData} (h : isIntD d = true) : ∃ i, d = .int i := by
  cases d <;> first | exact ⟨_, rfl⟩ | cases h
theorem r_is_integer (T : Txt K mg) : Rdy P w K mg base 1 "is_integer" ["thing"] (con1 fun d => .bool (isIntD d)) := by
  refine rdy T.is_integer_ sc_is_integer (fun cs ω Φ h => con1_len h) fun X f cdv A outer s H E hX hr cs ω Φ ⟨d, e, q⟩ => ?_
  subst hX; subst e
  try dsimp only at q
  refine b_one ?_
  refine s_ret ?_
  refine n_and ?_
  refine n_isi .int T.z_isinstance T.z_int ?_
  refine n_var 0 ?_
  refine ⟨d, rfl, _, rfl, ?_⟩
  refine ite2 (fun h => ?_) (fun h => ?_)
  · refine n_one ?_
    refine n_not ?_
    refine n_isi .bool T.z_isinstance T.z_bool ?_
    refine n_var 0 ?_
    refine ⟨d, rfl, _, rfl, ?_⟩
    cases d <;> first | exact q | cases h
  · cases d <;> first | exact q | exact absurd rfl h
theorem r_is_whole (T : Txt K mg) : Rdy P w K mg base 1 "_law_is_whole" ["thing"] (con1 fun d => .bool (isIntD d)) := by
  refine rdy T._law_is_whole_ sc__law_is_whole (fun cs ω Φ h => con1_len h) fun X f cdv A outer s H E hX hr cs ω Φ ⟨d, e, q⟩ => ?_
  subst hX; subst e
  try dsimp only at q
  refine b_one ?_
  refine s_ret ?_
  refine n_and ?_
  refine n_isi .int T.z_isinstance T.z_int ?_
  refine n_var 0 ?_
  refine ⟨d, rfl, _, rfl, ?_⟩
  refine ite2 (fun h => ?_) (fun h => ?_)
  · refine n_one ?_
    refine n_not ?_
    refine n_isi .bool T.z_isinstance T.z_bool ?_
    refine n_var 0 ?_
    refine ⟨d, rfl, _, rfl, ?_⟩
    cases d <;> first | exact q | cases h
  · cases d <;> first | exact q | exact absurd rfl h
def firstS : List PyData → Str → Bool
  | .str x :: _, w => decide (x = w)
  | _, _ => false
def isMadeD (d : PyData) (w : Str) (m : Nat) : Bool := match d with
  | .tuple xs => decide (xs.length = m) && firstS xs w
  | _ => false
def itemD (d : PyData) (i : Nat) : PyData := match d with
  | .tuple xs => xs.getD i .none
  | _ => .none
def madeC : Con := fun cs ω Φ => ∃ (d : PyData) (w : Str) (m : Nat), cs = [.dat d, .dat (.str w), .dat (.int (m : Int))] ∧ 1 ≤ m ∧ Φ ω (.dat (.bool (isMadeD d w m)))
theorem r_is_made (T : Txt K mg) : Rdy P w K mg base 1 "is_made" ["thing", "word", "many"] madeC := by
  refine rdy T.is_made_ sc_is_made (fun cs ω Φ ⟨d, w, m, e, _⟩ => by rw [e]; rfl) fun X f cdv A outer s H E hX hr cs ω Φ ⟨d, w, m, e, hm, q⟩ => ?_
  have hu := room_u64 hr
  subst hX; subst e
  try dsimp only at q
  refine b_one ?_
  refine s_ret ?_
  refine n_and ?_
  refine n_isi .tuple T.z_isinstance T.z_tuple ?_
  refine n_var 0 ?_
  refine ⟨d, rfl, _, rfl, ?_⟩
  refine ite2 (fun h => ?_) (fun h => ?_)
  rotate_left
  · cases d <;> first | exact q | exact absurd rfl h
  obtain ⟨xs, rfl⟩ : ∃ xs, d = .tuple xs := by cases d <;> first | exact ⟨_, rfl⟩ | cases h
  refine n_and ?_
  refine n_eq hu ?_
  refine n_len T.z_len ?_
  refine n_var 0 ?_
  refine ⟨_, _, rfl, rfl, ?_⟩
  refine n_var 2 ?_
  refine ⟨_, _, rfl, rfl, rfl, rfl, _, rfl, ?_⟩
  rw [eqv_ints]
  refine ite2 (fun h1 => ?_) (fun h1 => ?_)
  rotate_left
  · show Φ ω (.dat (.bool false))
    have e : isMadeD (.tuple xs) w m = false := by
      show (decide (xs.length = m) && _) = false
      rw [decide_eq_false (fun z => h1 (by rw [z]; exact beq_self_eq_true _))]; rfl
    rw [← e]; exact q
  have hl : xs.length = m := by have := eq_of_beq h1; omega
  cases xs with
  | nil => exact absurd hl (by simp; omega)
  | cons x r =>
    refine n_and ?_
    refine n_isi .str T.z_isinstance T.z_str ?_
    refine n_ixt (fun _ _ => rfl) ?_
    refine n_var 0 ?_
    refine n_int ?_
    refine ⟨_, _, x, rfl, rfl, atI_nat (j := 0) rfl, ?_⟩
    refine ⟨x, rfl, _, rfl, ?_⟩
    have e0 : isMadeD (.tuple (x :: r)) w m = firstS (x :: r) w := by
      show (decide ((x :: r).length = m) && _) = _
      rw [decide_eq_true hl]; rfl
    rw [e0] at q
    refine ite2 (fun h2 => ?_) (fun h2 => ?_)
    rotate_left
    · show Φ ω (.dat (.bool false))
      cases x <;> first | exact q | exact absurd rfl h2
    obtain ⟨y, rfl⟩ : ∃ y, x = .str y := by cases x <;> first | exact ⟨_, rfl⟩ | cases h2
    refine n_one ?_
    refine n_eqS ?_
    refine n_ixt (fun _ _ => rfl) ?_
    refine n_var 0 ?_
    refine n_int ?_
    refine ⟨_, _, _, rfl, rfl, atI_nat (j := 0) rfl, ?_⟩
    refine n_var 1 ?_
    exact ⟨_, _, rfl, rfl, q⟩
theorem made_item {d : PyData} {w : Str} {m i : Nat} (h : isMadeD d w m = true) (hi : i < m) : ∃ xs, d = .tuple xs ∧ atI xs (i : Int) = some (itemD d i) := by
  cases d with
  | tuple xs =>
    refine ⟨xs, rfl, ?_⟩
    have hl : xs.length = m := by
      have q : (decide (xs.length = m) && firstS xs w) = true := h
      rw [Bool.and_eq_true, decide_eq_true_eq] at q
      exact q.1
    have hi' : i < xs.length := by omega
    have e : xs[i]? = some (xs.getD i .none) := by rw [List.getD_eq_getElem?_getD, List.getElem?_eq_getElem hi']; rfl
    exact atI_nat (j := i) e
  | _ => cases h
def isWayD (d : PyData) : Bool := isMadeD d "by" 2 && isIntD (itemD d 1)
def nnD : PyData → Bool
  | .int i => decide (0 ≤ i)
  | _ => false
def isCountD (d : PyData) (w : Str) : Bool := isMadeD d w 2 && isIntD (itemD d 1) && nnD (itemD d 1)
theorem r_is_way (T : Txt K mg) : Rdy P w K mg base 2 "_is_way" ["thing"] (con1 fun d => .bool (isWayD d)) := by
  refine rdy T._is_way_ sc__is_way (fun cs ω Φ h => con1_len h) fun X f cdv A outer s H E hX hr cs ω Φ ⟨d, e, q⟩ => ?_
  subst hX; subst e
  try dsimp only at q
  refine b_one ?_
  refine s_ret ?_
  refine n_and ?_
  refine n_fn (r_is_made T) hr ?_
  refine na_cons ?_
  refine n_var 0 ?_
  refine na_cons ?_
  refine n_str ?_
  refine na_cons ?_
  refine n_int ?_
  refine na_nil ?_
  refine ⟨d, _, 2, rfl, by decide, _, rfl, ?_⟩
  refine ite2 (fun h => ?_) (fun h => ?_)
  · obtain ⟨xs, rfl, hx⟩ := made_item h (i := 1) (by decide)
    refine n_one ?_
    refine n_fn (r_is_integer T) hr ?_
    refine na_cons ?_
    refine n_ixt (fun _ _ => rfl) ?_
    refine n_var 0 ?_
    refine n_int ?_
    refine ⟨_, _, _, rfl, rfl, hx, na_nil ⟨_, rfl, ?_⟩⟩
    have e : isWayD (.tuple xs) = isIntD (itemD (.tuple xs) 1) := by unfold isWayD; rw [h]; rfl
    rw [e] at q; exact q
  · have e : isWayD d = false := by unfold isWayD; rw [Bool.eq_false_iff.mpr h]; rfl
    rw [e] at q; exact q
def countC : Con := fun cs ω Φ => ∃ (d : PyData) (w : Str), cs = [.dat d, .dat (.str w)] ∧ Φ ω (.dat (.bool (isCountD d w)))
theorem r_is_count (T : Txt K mg) : Rdy P w K mg base 2 "_is_count" ["thing", "word"] countC := by
  refine rdy T._is_count_ sc__is_count (fun cs ω Φ ⟨d, w, e, _⟩ => by rw [e]; rfl) fun X f cdv A outer s H E hX hr cs ω Φ ⟨d, w, e, q⟩ => ?_
  subst hX; subst e
  try dsimp only at q
  refine b_one ?_
  refine s_ret ?_
  refine n_and ?_
  refine n_fn (r_is_made T) hr ?_
  refine na_cons ?_
  refine n_var 0 ?_
  refine na_cons ?_
  refine n_var 1 ?_
  refine na_cons ?_
  refine n_int ?_
  refine na_nil ?_
  refine ⟨d, _, 2, rfl, by decide, _, rfl, ?_⟩
  refine ite2 (fun h => ?_) (fun h => ?_)
  · obtain ⟨xs, rfl, hx⟩ := made_item h (i := 1) (by decide)
    refine n_and ?_
    refine n_fn (r_is_integer T) hr ?_
    refine na_cons ?_
    refine n_ixt (fun _ _ => rfl) ?_
    refine n_var 0 ?_
    refine n_int ?_
    refine ⟨_, _, _, rfl, rfl, hx, na_nil ⟨_, rfl, _, rfl, ?_⟩⟩
    have e : isCountD (.tuple xs) w = (isIntD (itemD (.tuple xs) 1) && nnD (itemD (.tuple xs) 1)) := by unfold isCountD; rw [h]; rfl
    rw [e] at q
    refine ite2 (fun h2 => ?_) (fun h2 => ?_)
    · obtain ⟨i, hi⟩ := int_of_isInt h2
      refine n_one ?_
      refine n_ge ?_
      refine n_ixt (fun _ _ => rfl) ?_
      refine n_var 0 ?_
      refine n_int ?_
      refine ⟨_, _, _, rfl, rfl, hx, ?_⟩
      rw [hi] at q ⊢
      exact n_int ⟨_, _, rfl, rfl, q⟩
    · rw [Bool.eq_false_iff.mpr h2] at q; exact q
  · have e : isCountD d w = false := by unfold isCountD; rw [Bool.eq_false_iff.mpr h]; rfl
    rw [e] at q; exact q
def isEndD (d : PyData) : Bool := isNone d || isIntD d
theorem r_is_end (T : Txt K mg) : Rdy P w K mg base 2 "_is_end" ["thing"] (con1 fun d => .bool (isEndD d)) := by
  refine rdy T._is_end_ sc__is_end (fun cs ω Φ h => con1_len h) fun X f cdv A outer s H E hX hr cs ω Φ ⟨d, e, q⟩ => ?_
  subst hX; subst e
  try dsimp only at q
  refine b_one ?_
  refine s_ret ?_
  refine n_or ?_
  refine n_isN ?_
  refine n_var 0 ?_
  refine ⟨d, rfl, _, rfl, ?_⟩
  unfold isEndD at q
  refine ite2 (fun h => ?_) (fun h => ?_)
  · rw [h] at q; exact q
  · refine n_one ?_
    refine n_fn (r_is_integer T) hr ?_
    refine na_cons ?_
    refine n_var 0 ?_
    refine na_nil ?_
    refine ⟨d, rfl, ?_⟩
    rw [Bool.eq_false_iff.mpr h] at q; exact q
def colPartD (d : PyData) : Bool := isMadeD d "lost" 1 || (isWayD d || isCountD d "at")
def rowPartD (d : PyData) : Bool := isMadeD d "head" 1 || (isMadeD d "foot" 1 || (isWayD d || isCountD d "last"))
theorem r_is_column_part (T : Txt K mg) : Rdy P w K mg base 3 "_is_column_part" ["thing"] (con1 fun d => .bool (colPartD d)) := by
  refine rdy T._is_column_part_ sc__is_column_part (fun cs ω Φ h => con1_len h) fun X f cdv A outer s H E hX hr cs ω Φ ⟨d, e, q⟩ => ?_
  subst hX; subst e
  try dsimp only at q
  unfold colPartD at q
  refine b_one ?_
  refine s_ret ?_
  refine n_or ?_
  refine n_fn (r_is_made T) hr ?_
  refine na_cons ?_
  refine n_var 0 ?_
  refine na_cons ?_
  refine n_str ?_
  refine na_cons ?_
  refine n_int ?_
  refine na_nil ?_
  refine ⟨d, _, 1, rfl, by decide, _, rfl, ?_⟩
  refine ite2 (fun h => ?_) (fun h => ?_)
  · rw [h] at q; exact q
  rw [Bool.eq_false_iff.mpr h, Bool.false_or] at q
  refine n_or ?_
  refine n_fn (r_is_way T) hr ?_
  refine na_cons ?_
  refine n_var 0 ?_
  refine na_nil ?_
  refine ⟨d, rfl, _, rfl, ?_⟩
  refine ite2 (fun h => ?_) (fun h => ?_)
  · rw [h] at q; exact q
  rw [Bool.eq_false_iff.mpr h, Bool.false_or] at q
  refine n_one ?_
  refine n_fn (r_is_count T) hr ?_
  refine na_cons ?_
  refine n_var 0 ?_
  refine na_cons ?_
  refine n_str ?_
  refine na_nil ?_
  exact ⟨d, _, rfl, q⟩
theorem r_is_row_part (T : Txt K mg) : Rdy P w K mg base 3 "_is_row_part" ["thing"] (con1 fun d => .bool (rowPartD d)) := by
  refine rdy T._is_row_part_ sc__is_row_part (fun cs ω Φ h => con1_len h) fun X f cdv A outer s H E hX hr cs ω Φ ⟨d, e, q⟩ => ?_
  subst hX; subst e
  try dsimp only at q
  unfold rowPartD at q
  refine b_one ?_
  refine s_ret ?_
  refine n_or ?_
  refine n_fn (r_is_made T) hr ?_
  refine na_cons ?_
  refine n_var 0 ?_
  refine na_cons ?_
  refine n_str ?_
  refine na_cons ?_
  refine n_int ?_
  refine na_nil ?_
  refine ⟨d, _, 1, rfl, by decide, _, rfl, ?_⟩
  refine ite2 (fun h => ?_) (fun h => ?_)
  · rw [h] at q; exact q
  rw [Bool.eq_false_iff.mpr h, Bool.false_or] at q
  refine n_or ?_
  refine n_fn (r_is_made T) hr ?_
  refine na_cons ?_
  refine n_var 0 ?_
  refine na_cons ?_
  refine n_str ?_
  refine na_cons ?_
  refine n_int ?_
  refine na_nil ?_
  refine ⟨d, _, 1, rfl, by decide, _, rfl, ?_⟩
  refine ite2 (fun h => ?_) (fun h => ?_)
  · rw [h] at q; exact q
  rw [Bool.eq_false_iff.mpr h, Bool.false_or] at q
  refine n_or ?_
  refine n_fn (r_is_way T) hr ?_
  refine na_cons ?_
  refine n_var 0 ?_
  refine na_nil ?_
  refine ⟨d, rfl, _, rfl, ?_⟩
  refine ite2 (fun h => ?_) (fun h => ?_)
  · rw [h] at q; exact q
  rw [Bool.eq_false_iff.mpr h, Bool.false_or] at q
  refine n_one ?_
  refine n_fn (r_is_count T) hr ?_
  refine na_cons ?_
  refine n_var 0 ?_
  refine na_cons ?_
  refine n_str ?_
  refine na_nil ?_
  exact ⟨d, _, rfl, q⟩
def isNameD (d : PyData) : Bool := isMadeD d "name" 3 && (colPartD (itemD d 1) && rowPartD (itemD d 2))
def isRangeD (d : PyData) : Bool := isMadeD d "rows" 4 && (colPartD (itemD d 1) && (isEndD (itemD d 2) && isEndD (itemD d 3)))
theorem r_is_name (T : Txt K mg) : Rdy P w K mg base 4 "is_name" ["thing"] (con1 fun d => .bool (isNameD d)) := by
  refine rdy T.is_name_ sc_is_name (fun cs ω Φ h => con1_len h) fun X f cdv A outer s H E hX hr cs ω Φ ⟨d, e, q⟩ => ?_
  subst hX; subst e
  try dsimp only at q
  unfold isNameD at q
  refine b_one ?_
  refine s_ret ?_
  refine n_and ?_
  refine n_fn (r_is_made T) hr ?_
  refine na_cons ?_
  refine n_var 0 ?_
  refine na_cons ?_
  refine n_str ?_
  refine na_cons ?_
  refine n_int ?_
  refine na_nil ?_
  refine ⟨d, _, 3, rfl, by decide, _, rfl, ?_⟩
  refine ite2 (fun h => ?_) (fun h => ?_)
  rotate_left
  · rw [Bool.eq_false_iff.mpr h] at q; exact q
  rw [h, Bool.true_and] at q
  obtain ⟨xs, rfl, h1⟩ := made_item h (i := 1) (by decide)
  obtain ⟨_, e, h2⟩ := made_item h (i := 2) (by decide)
  cases e
  refine n_and ?_
  refine n_fn (r_is_column_part T) hr ?_
  refine na_cons ?_
  refine n_ixt (fun _ _ => rfl) ?_
  refine n_var 0 ?_
  refine n_int ?_
  refine ⟨_, _, _, rfl, rfl, h1, na_nil ⟨_, rfl, _, rfl, ?_⟩⟩
  refine ite2 (fun h => ?_) (fun h => ?_)
  rotate_left
  · rw [Bool.eq_false_iff.mpr h] at q; exact q
  rw [h, Bool.true_and] at q
  refine n_one ?_
  refine n_fn (r_is_row_part T) hr ?_
  refine na_cons ?_
  refine n_ixt (fun _ _ => rfl) ?_
  refine n_var 0 ?_
  refine n_int ?_
  exact ⟨_, _, _, rfl, rfl, h2, na_nil ⟨_, rfl, q⟩⟩
theorem r_is_range (T : Txt K mg) : Rdy P w K mg base 4 "is_range" ["thing"] (con1 fun d => .bool (isRangeD d)) := by
  refine rdy T.is_range_ sc_is_range (fun cs ω Φ h => con1_len h) fun X f cdv A outer s H E hX hr cs ω Φ ⟨d, e, q⟩ => ?_
  subst hX; subst e
  try dsimp only at q
  unfold isRangeD at q
  refine b_one ?_
  refine s_ret ?_
  refine n_and ?_
  refine n_fn (r_is_made T) hr ?_
  refine na_cons ?_
  refine n_var 0 ?_
  refine na_cons ?_
  refine n_str ?_
  refine na_cons ?_
  refine n_int ?_
  refine na_nil ?_
  refine ⟨d, _, 4, rfl, by decide, _, rfl, ?_⟩
  refine ite2 (fun h => ?_) (fun h => ?_)
  rotate_left
  · rw [Bool.eq_false_iff.mpr h] at q; exact q
  rw [h, Bool.true_and] at q
  obtain ⟨xs, rfl, h1⟩ := made_item h (i := 1) (by decide)
  obtain ⟨_, e, h2⟩ := made_item h (i := 2) (by decide)
  cases e
  obtain ⟨_, e, h3⟩ := made_item h (i := 3) (by decide)
  cases e
  refine n_and ?_
  refine n_fn (r_is_column_part T) hr ?_
  refine na_cons ?_
  refine n_ixt (fun _ _ => rfl) ?_
  refine n_var 0 ?_
  refine n_int ?_
  refine ⟨_, _, _, rfl, rfl, h1, na_nil ⟨_, rfl, _, rfl, ?_⟩⟩
  refine ite2 (fun h => ?_) (fun h => ?_)
  rotate_left
  · rw [Bool.eq_false_iff.mpr h] at q; exact q
  rw [h, Bool.true_and] at q
  refine n_and ?_
  refine n_fn (r_is_end T) hr ?_
  refine na_cons ?_
  refine n_ixt (fun _ _ => rfl) ?_
  refine n_var 0 ?_
  refine n_int ?_
  refine ⟨_, _, _, rfl, rfl, h2, na_nil ⟨_, rfl, _, rfl, ?_⟩⟩
  refine ite2 (fun h => ?_) (fun h => ?_)
  rotate_left
  · rw [Bool.eq_false_iff.mpr h] at q; exact q
  rw [h, Bool.true_and] at q
  refine n_one ?_
  refine n_fn (r_is_end T) hr ?_
  refine na_cons ?_
  refine n_ixt (fun _ _ => rfl) ?_
  refine n_var 0 ?_
  refine n_int ?_
  exact ⟨_, _, _, rfl, rfl, h3, na_nil ⟨_, rfl, q⟩⟩
end
section
variable {P : Program} {w : World} {K : PySem.W.Frag} {mg : Str → Option Value} {base : Heap}
theorem made_str (s w : Str) (r : List PyData) (m : Nat) : isMadeD (.tuple (.str s :: r)) w m = (decide (r.length + 1 = m) && decide (s = w)) := rfl
theorem made_no {x : PyData} (r : List PyData) (w : Str) (m : Nat) (h : isT .str x = false) : isMadeD (.tuple (x :: r)) w m = false := by
  show (decide (r.length + 1 = m) && firstS (x :: r) w) = false
  have e : firstS (x :: r) w = false := by cases x <;> first | rfl | cases h
  rw [e, Bool.and_false]
theorem made_nt {d : PyData} (w : Str) (m : Nat) (h : isT .tuple d = false) : isMadeD d w m = false := by
  cases d <;> first | rfl | cases h
theorem made_nil (w : Str) (m : Nat) : isMadeD (.tuple []) w m = false := by
  show (_ && false) = false
  rw [Bool.and_false]
theorem item_one (x : PyData) (r : List PyData) : itemD (.tuple (x :: r)) 1 = r.getD 0 .none := by cases r <;> rfl
theorem way_str (s : Str) (r : List PyData) : isWayD (.tuple (.str s :: r)) = ((decide (r.length = 1) && decide (s = "by")) && isIntD (r.getD 0 .none)) := by
  unfold isWayD
  rw [made_str, item_one]
  simp
theorem count_str (s w : Str) (r : List PyData) : isCountD (.tuple (.str s :: r)) w = (((decide (r.length = 1) && decide (s = w)) && isIntD (r.getD 0 .none)) && nnD (r.getD 0 .none)) := by
  unfold isCountD
  rw [made_str, item_one]
  simp
theorem nlb : ¬ ("lost" : Str) = "by" := by decide +kernel
theorem nla : ¬ ("lost" : Str) = "at" := by decide +kernel
theorem nba : ¬ ("by" : Str) = "at" := by decide +kernel
theorem colPart_no {d : PyData} (h : ∀ w m, isMadeD d w m = false) : colPartD d = false := by
  unfold colPartD isWayD isCountD
  rw [h, h, h]; rfl
theorem rowPart_no {d : PyData} (h : ∀ w m, isMadeD d w m = false) : rowPartD d = false := by
  unfold rowPartD isWayD isCountD
  rw [h, h, h, h]; rfl
theorem colPart_lost (r : List PyData) : colPartD (.tuple (.str "lost" :: r)) = decide (r.length = 0) := by
  unfold colPartD
  rw [made_str, way_str, count_str, decide_eq_false nlb, decide_eq_false nla]
  simp
theorem colPart_else {s : Str} (h : ¬ s = "lost") (r : List PyData) : colPartD (.tuple (.str s :: r)) = (decide (r.length = 1) && (isIntD (r.getD 0 .none) && (decide (s = "by") || (decide (s = "at") && nnD (r.getD 0 .none))))) := by
  unfold colPartD
  rw [made_str, way_str, count_str, decide_eq_false h, Bool.and_false]
  cases decide (r.length = 1) <;> cases decide (s = "by") <;> cases decide (s = "at") <;> cases isIntD (r.getD 0 .none) <;> cases nnD (r.getD 0 .none) <;> rfl
theorem r_law_is_part (T : Txt K mg) : Rdy P w K mg base 2 "_law_is_part" ["thing"] (con1 fun d => .bool (colPartD d)) := by
  refine rdy T._law_is_part_ sc__law_is_part (fun cs ω Φ h => con1_len h) fun X f cdv A outer s H E hX hr cs ω Φ ⟨d, e, q⟩ => ?_
  have hu := room_u64 hr
  subst hX; subst e
  try dsimp only at q
  -- if not isinstance(thing, tuple) or len(thing) == 0 or not isinstance(thing[0], str): return False
  refine b_cons ?_
  refine s_if ?_
  refine nt_w ?_
  refine nw_or ?_
  refine nt_not ?_
  refine nt_val ?_
  refine n_isi .tuple T.z_isinstance T.z_tuple ?_
  refine n_var 0 ?_
  refine ⟨d, rfl, _, rfl, ?_⟩
  refine ite2 (fun h => ?_) (fun h => ?_)
  · refine b_one ?_
    refine s_ret ?_
    refine n_bl ?_
    rw [colPart_no (fun w m => made_nt w m (by simpa using h))] at q
    exact q
  obtain ⟨xs, rfl⟩ : ∃ xs, d = .tuple xs := by cases d <;> first | exact ⟨_, rfl⟩ | exact absurd rfl h
  refine nw_or ?_
  refine nt_eq hu ?_
  refine n_len T.z_len ?_
  refine n_var 0 ?_
  refine ⟨_, _, rfl, rfl, ?_⟩
  refine n_int ⟨_, _, rfl, rfl, rfl, rfl, ?_⟩
  rw [eqv_ints]
  cases xs with
  | nil =>
    refine ite2 (fun _ => ?_) (fun h => absurd rfl h)
    refine b_one ?_
    refine s_ret ?_
    refine n_bl ?_
    rw [colPart_no (fun w m => made_nil w m)] at q
    exact q
  | cons x r =>
    refine ite2 (fun h => absurd (eq_of_beq h) (by show ¬ (((r.length + 1 : Nat) : Int) = 0); omega)) (fun _ => ?_)
    refine nw_or1 ?_
    refine nt_not ?_
    refine nt_val ?_
    refine n_isi .str T.z_isinstance T.z_str ?_
    refine n_ixt (fun _ _ => rfl) ?_
    refine n_var 0 ?_
    refine n_int ?_
    refine ⟨_, _, x, rfl, rfl, atI_nat (j := 0) rfl, x, rfl, _, rfl, ?_⟩
    refine ite2 (fun h => ?_) (fun h => ?_)
    · refine b_one ?_
      refine s_ret ?_
      refine n_bl ?_
      rw [colPart_no (fun w m => made_no r w m (by simpa using h))] at q
      exact q
    obtain ⟨s, rfl⟩ : ∃ s, x = .str s := by cases x <;> first | exact ⟨_, rfl⟩ | exact absurd rfl h
    refine b_nil ?_
    -- if thing[0] == 'lost': return len(thing) == 1
    refine b_cons ?_
    refine s_if ?_
    refine nt_eqS ?_
    refine n_ixt (fun _ _ => rfl) ?_
    refine n_var 0 ?_
    refine n_int ?_
    refine ⟨_, _, _, rfl, rfl, atI_nat (j := 0) rfl, ?_⟩
    refine n_str ⟨_, _, rfl, rfl, ?_⟩
    refine ite2 (fun h => ?_) (fun h => ?_)
    · have e := of_decide_eq_true h
      subst e
      rw [colPart_lost] at q
      refine b_one ?_
      refine s_ret ?_
      refine n_eq hu ?_
      refine n_len T.z_len ?_
      refine n_var 0 ?_
      refine ⟨_, _, rfl, rfl, ?_⟩
      refine n_int ⟨_, _, rfl, rfl, rfl, rfl, ?_⟩
      rw [eqv_ints]
      have e : (((.str "lost" :: r : List PyData).length : Int) == 1) = decide (r.length = 0) := by
        rw [Bool.eq_iff_iff, beq_iff_eq, decide_eq_true_eq]
        show ((r.length + 1 : Nat) : Int) = 1 ↔ _
        omega
      show Φ ω (.dat (.bool _))
      rw [e]; exact q
    have hs : ¬ s = "lost" := fun z => h (decide_eq_true z)
    rw [colPart_else hs] at q
    refine b_nil ?_
    -- if len(thing) != 2 or not _law_is_whole(thing[1]): return False
    refine b_cons ?_
    refine s_if ?_
    refine nt_or ?_
    refine nt_ne hu ?_
    refine n_len T.z_len ?_
    refine n_var 0 ?_
    refine ⟨_, _, rfl, rfl, ?_⟩
    refine n_int ⟨_, _, rfl, rfl, rfl, rfl, ?_⟩
    rw [eqv_ints]
    by_cases hl : r.length = 1
    rotate_left
    · have e : ((((.str s :: r : List PyData).length : Nat) : Int) == 2) = false := Bool.eq_false_iff.mpr fun z => hl (by have := eq_of_beq z; simp at this; omega)
      rw [e]
      refine ite2 (fun _ => ?_) (fun h => absurd rfl h)
      refine b_one ?_
      refine s_ret ?_
      refine n_bl ?_
      rw [decide_eq_false hl] at q
      exact q
    rw [decide_eq_true hl, Bool.true_and] at q
    obtain ⟨y, rfl⟩ : ∃ y, r = [y] := by
      match r, hl with
      | [y], _ => exact ⟨y, rfl⟩
    refine ite2 (fun h => ((show ¬ ((!true) = true) by decide) h).elim) (fun _ => ?_)
    refine nt_not ?_
    refine nt_val ?_
    refine n_fn (r_is_whole T) hr ?_
    refine na_cons ?_
    refine n_ixt (fun _ _ => rfl) ?_
    refine n_var 0 ?_
    refine n_int ?_
    refine ⟨_, _, y, rfl, rfl, atI_nat (j := 1) rfl, na_nil ⟨_, rfl, _, rfl, ?_⟩⟩
    have eq1 : ([y] : List PyData).getD 0 .none = y := rfl
    rw [eq1] at q
    refine ite2 (fun h => ?_) (fun h => ?_)
    · refine b_one ?_
      refine s_ret ?_
      refine n_bl ?_
      have e : isIntD y = false := by simpa using h
      rw [e] at q
      exact q
    have hy : isIntD y = true := by simpa using h
    rw [hy, Bool.true_and] at q
    obtain ⟨i, rfl⟩ := int_of_isInt hy
    refine b_nil ?_
    -- return thing[0] == 'by' or (thing[0] == 'at' and thing[1] >= 0)
    refine b_one ?_
    refine s_ret ?_
    refine n_or ?_
    refine n_eqS ?_
    refine n_ixt (fun _ _ => rfl) ?_
    refine n_var 0 ?_
    refine n_int ?_
    refine ⟨_, _, _, rfl, rfl, atI_nat (j := 0) rfl, ?_⟩
    refine n_str ⟨_, _, rfl, rfl, _, rfl, ?_⟩
    refine ite2 (fun h => ?_) (fun h => ?_)
    · rw [h] at q; exact q
    rw [Bool.eq_false_iff.mpr h, Bool.false_or] at q
    refine n_one ?_
    refine n_and ?_
    refine n_eqS ?_
    refine n_ixt (fun _ _ => rfl) ?_
    refine n_var 0 ?_
    refine n_int ?_
    refine ⟨_, _, _, rfl, rfl, atI_nat (j := 0) rfl, ?_⟩
    refine n_str ⟨_, _, rfl, rfl, _, rfl, ?_⟩
    refine ite2 (fun h => ?_) (fun h => ?_)
    · rw [h] at q
      refine n_one ?_
      refine n_ge ?_
      refine n_ixt (fun _ _ => rfl) ?_
      refine n_var 0 ?_
      refine n_int ?_
      refine ⟨_, _, _, rfl, rfl, atI_nat (j := 1) rfl, ?_⟩
      exact n_int ⟨_, _, rfl, rfl, q⟩
    · rw [Bool.eq_false_iff.mpr h] at q; exact q
end
section
variable {P : Program} {w : World} {K : PySem.W.Frag} {mg : Str → Option Value} {base : Heap}
theorem rowPart_str {s : Str} (r : List PyData) : rowPartD (.tuple (.str s :: r)) = ((decide (r.length = 0) && (decide (s = "head") || decide (s = "foot"))) || (decide (r.length = 1) && (isIntD (r.getD 0 .none) && (decide (s = "by") || (decide (s = "last") && nnD (r.getD 0 .none)))))) := by
  unfold rowPartD
  rw [made_str, made_str, way_str, count_str]
  have e : decide (r.length + 1 = 1) = decide (r.length = 0) := by rw [Bool.eq_iff_iff]; simp
  rw [e]
  cases decide (r.length = 0) <;> cases decide (r.length = 1) <;> cases decide (s = "head") <;> cases decide (s = "foot") <;> cases decide (s = "by") <;> cases decide (s = "last") <;> cases isIntD (r.getD 0 .none) <;> cases nnD (r.getD 0 .none) <;> rfl
theorem nhb : ¬ ("head" : Str) = "by" := by decide +kernel
theorem nhl : ¬ ("head" : Str) = "last" := by decide +kernel
theorem nfb : ¬ ("foot" : Str) = "by" := by decide +kernel
theorem nfl : ¬ ("foot" : Str) = "last" := by decide +kernel
theorem name_nt {d : PyData} (h : ∀ m, isMadeD d "name" m = false) : isNameD d = false := by unfold isNameD; rw [h]; rfl
theorem range_nt {d : PyData} (h : ∀ m, isMadeD d "rows" m = false) : isRangeD d = false := by unfold isRangeD; rw [h]; rfl
theorem headfoot (s : Str) : inD (.str s) [.str "head", .str "foot"] = (decide (s = "head") || decide (s = "foot")) := by
  show (([.str "head", .str "foot"] : List PyData).map valD).any (fun y => eqV y (.str s)) = _
  show (eqV (.str "head") (.str s) || (eqV (.str "foot") (.str s) || false)) = _
  have e : ∀ a b : Str, eqV (.str a) (.str b) = decide (b = a) := fun a b => by
    rw [Bool.eq_iff_iff, decide_eq_true_eq]
    exact ⟨fun h => (eq_of_beq h).symm, fun h => by rw [h]; exact beq_self_eq_true a⟩
  rw [e, e, Bool.or_false]
theorem r_law_is_name (T : Txt K mg) : Rdy P w K mg base 3 "_law_is_name" ["thing"] (con1 fun d => .bool (isNameD d)) := by
  refine rdy T._law_is_name_ sc__law_is_name (fun cs ω Φ h => con1_len h) fun X f cdv A outer s H E hX hr cs ω Φ ⟨d, e, q⟩ => ?_
  have hu := room_u64 hr
  subst hX; subst e
  try dsimp only at q
  -- not a tuple of three that begins with 'name'
  refine b_cons ?_
  refine s_if ?_
  refine nt_w ?_
  refine nw_or ?_
  refine nt_not ?_
  refine nt_val ?_
  refine n_isi .tuple T.z_isinstance T.z_tuple ?_
  refine n_var 0 ?_
  refine ⟨d, rfl, _, rfl, ?_⟩
  refine ite2 (fun h => ?_) (fun h => ?_)
  · refine b_one ?_
    refine s_ret ?_
    refine n_bl ?_
    rw [name_nt (fun m => made_nt _ m (by simpa using h))] at q
    exact q
  obtain ⟨xs, rfl⟩ : ∃ xs, d = .tuple xs := by cases d <;> first | exact ⟨_, rfl⟩ | exact absurd rfl h
  refine nw_or ?_
  refine nt_ne hu ?_
  refine n_len T.z_len ?_
  refine n_var 0 ?_
  refine ⟨_, _, rfl, rfl, ?_⟩
  refine n_int ⟨_, _, rfl, rfl, rfl, rfl, ?_⟩
  rw [eqv_ints]
  by_cases hl : xs.length = 3
  rotate_left
  · have e : ((xs.length : Int) == 3) = false := Bool.eq_false_iff.mpr fun z => hl (by have := eq_of_beq z; omega)
    rw [e]
    refine ite2 (fun _ => ?_) (fun h => absurd rfl h)
    refine b_one ?_
    refine s_ret ?_
    refine n_bl ?_
    have e2 : isNameD (.tuple xs) = false := by
      unfold isNameD
      show ((decide (xs.length = 3) && _) && _) = false
      rw [decide_eq_false hl]; rfl
    rw [e2] at q
    exact q
  obtain ⟨x, y, z, rfl⟩ : ∃ x y z, xs = [x, y, z] := by
    match xs, hl with
    | [x, y, z], _ => exact ⟨x, y, z, rfl⟩
  refine ite2 (fun h => ((show ¬ ((!true) = true) by decide) h).elim) (fun _ => ?_)
  refine nw_or ?_
  refine nt_not ?_
  refine nt_val ?_
  refine n_isi .str T.z_isinstance T.z_str ?_
  refine n_ixt (fun _ _ => rfl) ?_
  refine n_var 0 ?_
  refine n_int ?_
  refine ⟨_, _, x, rfl, rfl, atI_nat (j := 0) rfl, x, rfl, _, rfl, ?_⟩
  refine ite2 (fun h => ?_) (fun h => ?_)
  · refine b_one ?_
    refine s_ret ?_
    refine n_bl ?_
    rw [name_nt (fun m => made_no _ _ m (by simpa using h))] at q
    exact q
  obtain ⟨s, rfl⟩ : ∃ s, x = .str s := by cases x <;> first | exact ⟨_, rfl⟩ | exact absurd rfl h
  refine nw_or1 ?_
  refine nt_neS ?_
  refine n_ixt (fun _ _ => rfl) ?_
  refine n_var 0 ?_
  refine n_int ?_
  refine ⟨_, _, _, rfl, rfl, atI_nat (j := 0) rfl, ?_⟩
  refine n_str ⟨_, _, rfl, rfl, ?_⟩
  show if (!decide (s = "name")) = true then _ else _
  by_cases hs : s = "name"
  rotate_left
  · rw [decide_eq_false hs]
    refine ite2 (fun _ => ?_) (fun h => absurd rfl h)
    refine b_one ?_
    refine s_ret ?_
    refine n_bl ?_
    rw [name_nt (fun m => by rw [made_str, decide_eq_false hs, Bool.and_false])] at q
    exact q
  subst hs
  rw [decide_eq_true rfl]
  refine ite2 (fun h => ((show ¬ ((!true) = true) by decide) h).elim) (fun _ => ?_)
  refine b_nil ?_
  have en : isNameD (.tuple [.str "name", y, z]) = (colPartD y && rowPartD z) := by
    unfold isNameD
    rw [made_str]; rfl
  rw [en] at q
  -- row = thing[2]
  refine b_cons ?_
  refine s_set 1 sc__law_is_name.nd ?_
  refine n_ixt (fun _ _ => rfl) ?_
  refine n_var 0 ?_
  refine n_int ?_
  refine ⟨_, _, z, rfl, rfl, atI_nat (j := 2) rfl, ?_⟩
  -- the parts' own form
  refine b_cons ?_
  refine s_if ?_
  refine nt_w ?_
  refine nw_or ?_
  refine nt_not ?_
  refine nt_val ?_
  refine n_fn (r_law_is_part T) hr ?_
  refine na_cons ?_
  refine n_ixt (fun _ _ => rfl) ?_
  refine n_var 0 ?_
  refine n_int ?_
  refine ⟨_, _, y, rfl, rfl, atI_nat (j := 1) rfl, na_nil ⟨y, rfl, _, rfl, ?_⟩⟩
  refine ite2 (fun h => ?_) (fun h => ?_)
  · refine b_one ?_
    refine s_ret ?_
    refine n_bl ?_
    have e : colPartD y = false := by simpa using h
    rw [e] at q; exact q
  have e : colPartD y = true := by simpa using h
  rw [e, Bool.true_and] at q
  refine nw_or ?_
  refine nt_not ?_
  refine nt_val ?_
  refine n_isi .tuple T.z_isinstance T.z_tuple ?_
  refine n_var 1 ?_
  refine ⟨z, rfl, _, rfl, ?_⟩
  refine ite2 (fun h => ?_) (fun h => ?_)
  · refine b_one ?_
    refine s_ret ?_
    refine n_bl ?_
    rw [rowPart_no (fun w m => made_nt w m (by simpa using h))] at q
    exact q
  obtain ⟨zs, rfl⟩ : ∃ zs, z = .tuple zs := by cases z <;> first | exact ⟨_, rfl⟩ | exact absurd rfl h
  refine nw_or ?_
  refine nt_eq hu ?_
  refine n_len T.z_len ?_
  refine n_var 1 ?_
  refine ⟨_, _, rfl, rfl, ?_⟩
  refine n_int ⟨_, _, rfl, rfl, rfl, rfl, ?_⟩
  rw [eqv_ints]
  cases zs with
  | nil =>
    refine ite2 (fun _ => ?_) (fun h => absurd rfl h)
    refine b_one ?_
    refine s_ret ?_
    refine n_bl ?_
    rw [rowPart_no (fun w m => made_nil w m)] at q
    exact q
  | cons x r =>
    refine ite2 (fun h => absurd (eq_of_beq h) (by show ¬ (((r.length + 1 : Nat) : Int) = 0); omega)) (fun _ => ?_)
    refine nw_or1 ?_
    refine nt_not ?_
    refine nt_val ?_
    refine n_isi .str T.z_isinstance T.z_str ?_
    refine n_ixt (fun _ _ => rfl) ?_
    refine n_var 1 ?_
    refine n_int ?_
    refine ⟨_, _, x, rfl, rfl, atI_nat (j := 0) rfl, x, rfl, _, rfl, ?_⟩
    refine ite2 (fun h => ?_) (fun h => ?_)
    · refine b_one ?_
      refine s_ret ?_
      refine n_bl ?_
      rw [rowPart_no (fun w m => made_no r w m (by simpa using h))] at q
      exact q
    obtain ⟨s, rfl⟩ : ∃ s, x = .str s := by cases x <;> first | exact ⟨_, rfl⟩ | exact absurd rfl h
    rw [rowPart_str] at q
    refine b_nil ?_
    -- if row[0] in ('head', 'foot'): return len(row) == 1
    refine b_cons ?_
    refine s_if ?_
    refine nt_in (by rfl) ?_
    refine n_ixt (fun _ _ => rfl) ?_
    refine n_var 1 ?_
    refine n_int ?_
    refine ⟨_, _, _, rfl, rfl, atI_nat (j := 0) rfl, ?_⟩
    repeat walk_at "dl"
    refine ⟨[.str "head", .str "foot"], rfl, rfl, ?_⟩
    refine ⟨.str s, _, rfl, .inl rfl, rfl, rfl, ?_⟩
    rw [headfoot]
    refine ite2 (fun h => ?_) (fun h => ?_)
    · refine b_one ?_
      refine s_ret ?_
      refine n_eq hu ?_
      refine n_len T.z_len ?_
      refine n_var 1 ?_
      refine ⟨_, _, rfl, rfl, ?_⟩
      refine n_int ⟨_, _, rfl, rfl, rfl, rfl, ?_⟩
      rw [eqv_ints]
      have e : (((.str s :: r : List PyData).length : Int) == 1) = decide (r.length = 0) := by
        rw [Bool.eq_iff_iff, beq_iff_eq, decide_eq_true_eq]
        show ((r.length + 1 : Nat) : Int) = 1 ↔ _
        omega
      show Φ ω (.dat (.bool _))
      rw [e]
      have hb : decide (s = "by") = false ∧ decide (s = "last") = false := by
        rcases (Bool.or_eq_true _ _).mp h with h | h
        · rw [of_decide_eq_true h]; exact ⟨decide_eq_false nhb, decide_eq_false nhl⟩
        · rw [of_decide_eq_true h]; exact ⟨decide_eq_false nfb, decide_eq_false nfl⟩
      rw [h, hb.1, hb.2] at q
      simpa using q
    rw [Bool.eq_false_iff.mpr h, Bool.and_false, Bool.false_or] at q
    refine b_nil ?_
    -- if len(row) != 2 or not _law_is_whole(row[1]): return False
    refine b_cons ?_
    refine s_if ?_
    refine nt_or ?_
    refine nt_ne hu ?_
    refine n_len T.z_len ?_
    refine n_var 1 ?_
    refine ⟨_, _, rfl, rfl, ?_⟩
    refine n_int ⟨_, _, rfl, rfl, rfl, rfl, ?_⟩
    rw [eqv_ints]
    by_cases hl : r.length = 1
    rotate_left
    · have e : ((((.str s :: r : List PyData).length : Nat) : Int) == 2) = false := Bool.eq_false_iff.mpr fun z => hl (by have := eq_of_beq z; simp at this; omega)
      rw [e]
      refine ite2 (fun _ => ?_) (fun h => absurd rfl h)
      refine b_one ?_
      refine s_ret ?_
      refine n_bl ?_
      rw [decide_eq_false hl] at q
      exact q
    rw [decide_eq_true hl, Bool.true_and] at q
    obtain ⟨v, rfl⟩ : ∃ v, r = [v] := by
      match r, hl with
      | [v], _ => exact ⟨v, rfl⟩
    refine ite2 (fun h => ((show ¬ ((!true) = true) by decide) h).elim) (fun _ => ?_)
    refine nt_not ?_
    refine nt_val ?_
    refine n_fn (r_is_whole T) hr ?_
    refine na_cons ?_
    refine n_ixt (fun _ _ => rfl) ?_
    refine n_var 1 ?_
    refine n_int ?_
    refine ⟨_, _, v, rfl, rfl, atI_nat (j := 1) rfl, na_nil ⟨_, rfl, _, rfl, ?_⟩⟩
    have eq1 : ([v] : List PyData).getD 0 .none = v := rfl
    rw [eq1] at q
    refine ite2 (fun h => ?_) (fun h => ?_)
    · refine b_one ?_
      refine s_ret ?_
      refine n_bl ?_
      have e : isIntD v = false := by simpa using h
      rw [e] at q
      exact q
    have hy : isIntD v = true := by simpa using h
    rw [hy, Bool.true_and] at q
    obtain ⟨i, rfl⟩ := int_of_isInt hy
    refine b_nil ?_
    refine b_one ?_
    refine s_ret ?_
    refine n_or ?_
    refine n_eqS ?_
    refine n_ixt (fun _ _ => rfl) ?_
    refine n_var 1 ?_
    refine n_int ?_
    refine ⟨_, _, _, rfl, rfl, atI_nat (j := 0) rfl, ?_⟩
    refine n_str ⟨_, _, rfl, rfl, _, rfl, ?_⟩
    refine ite2 (fun h => ?_) (fun h => ?_)
    · rw [h] at q; exact q
    rw [Bool.eq_false_iff.mpr h, Bool.false_or] at q
    refine n_one ?_
    refine n_and ?_
    refine n_eqS ?_
    refine n_ixt (fun _ _ => rfl) ?_
    refine n_var 1 ?_
    refine n_int ?_
    refine ⟨_, _, _, rfl, rfl, atI_nat (j := 0) rfl, ?_⟩
    refine n_str ⟨_, _, rfl, rfl, _, rfl, ?_⟩
    refine ite2 (fun h => ?_) (fun h => ?_)
    · rw [h] at q
      refine n_one ?_
      refine n_ge ?_
      refine n_ixt (fun _ _ => rfl) ?_
      refine n_var 1 ?_
      refine n_int ?_
      refine ⟨_, _, _, rfl, rfl, atI_nat (j := 1) rfl, ?_⟩
      exact n_int ⟨_, _, rfl, rfl, q⟩
    · rw [Bool.eq_false_iff.mpr h] at q; exact q
end
section
variable {P : Program} {w : World} {K : PySem.W.Frag} {mg : Str → Option Value} {base : Heap}
theorem r_law_is_range (T : Txt K mg) : Rdy P w K mg base 3 "_law_is_range" ["thing"] (con1 fun d => .bool (isRangeD d)) := by
  refine rdy T._law_is_range_ sc__law_is_range (fun cs ω Φ h => con1_len h) fun X f cdv A outer s H E hX hr cs ω Φ ⟨d, e, q⟩ => ?_
  have hu := room_u64 hr
  subst hX; subst e
  try dsimp only at q
  refine b_cons ?_
  refine s_if ?_
  refine nt_w ?_
  refine nw_or ?_
  refine nt_not ?_
  refine nt_val ?_
  refine n_isi .tuple T.z_isinstance T.z_tuple ?_
  refine n_var 0 ?_
  refine ⟨d, rfl, _, rfl, ?_⟩
  refine ite2 (fun h => ?_) (fun h => ?_)
  · refine b_one ?_
    refine s_ret ?_
    refine n_bl ?_
    rw [range_nt (fun m => made_nt _ m (by simpa using h))] at q
    exact q
  obtain ⟨xs, rfl⟩ : ∃ xs, d = .tuple xs := by cases d <;> first | exact ⟨_, rfl⟩ | exact absurd rfl h
  refine nw_or ?_
  refine nt_ne hu ?_
  refine n_len T.z_len ?_
  refine n_var 0 ?_
  refine ⟨_, _, rfl, rfl, ?_⟩
  refine n_int ⟨_, _, rfl, rfl, rfl, rfl, ?_⟩
  rw [eqv_ints]
  by_cases hl : xs.length = 4
  rotate_left
  · have e : ((xs.length : Int) == 4) = false := Bool.eq_false_iff.mpr fun z => hl (by have := eq_of_beq z; omega)
    rw [e]
    refine ite2 (fun _ => ?_) (fun h => absurd rfl h)
    refine b_one ?_
    refine s_ret ?_
    refine n_bl ?_
    have e2 : isRangeD (.tuple xs) = false := by
      unfold isRangeD
      show ((decide (xs.length = 4) && _) && _) = false
      rw [decide_eq_false hl]; rfl
    rw [e2] at q
    exact q
  obtain ⟨x, y, z, v, rfl⟩ : ∃ x y z v, xs = [x, y, z, v] := by
    match xs, hl with
    | [x, y, z, v], _ => exact ⟨x, y, z, v, rfl⟩
  refine ite2 (fun h => ((show ¬ ((!true) = true) by decide) h).elim) (fun _ => ?_)
  refine nw_or ?_
  refine nt_not ?_
  refine nt_val ?_
  refine n_isi .str T.z_isinstance T.z_str ?_
  refine n_ixt (fun _ _ => rfl) ?_
  refine n_var 0 ?_
  refine n_int ?_
  refine ⟨_, _, x, rfl, rfl, atI_nat (j := 0) rfl, x, rfl, _, rfl, ?_⟩
  refine ite2 (fun h => ?_) (fun h => ?_)
  · refine b_one ?_
    refine s_ret ?_
    refine n_bl ?_
    rw [range_nt (fun m => made_no _ _ m (by simpa using h))] at q
    exact q
  obtain ⟨s, rfl⟩ : ∃ s, x = .str s := by cases x <;> first | exact ⟨_, rfl⟩ | exact absurd rfl h
  refine nw_or1 ?_
  refine nt_neS ?_
  refine n_ixt (fun _ _ => rfl) ?_
  refine n_var 0 ?_
  refine n_int ?_
  refine ⟨_, _, _, rfl, rfl, atI_nat (j := 0) rfl, ?_⟩
  refine n_str ⟨_, _, rfl, rfl, ?_⟩
  show if (!decide (s = "rows")) = true then _ else _
  by_cases hs : s = "rows"
  rotate_left
  · rw [decide_eq_false hs]
    refine ite2 (fun _ => ?_) (fun h => absurd rfl h)
    refine b_one ?_
    refine s_ret ?_
    refine n_bl ?_
    rw [range_nt (fun m => by rw [made_str, decide_eq_false hs, Bool.and_false])] at q
    exact q
  subst hs
  rw [decide_eq_true rfl]
  refine ite2 (fun h => ((show ¬ ((!true) = true) by decide) h).elim) (fun _ => ?_)
  refine b_nil ?_
  have en : isRangeD (.tuple [.str "rows", y, z, v]) = (colPartD y && (isEndD z && isEndD v)) := by
    unfold isRangeD
    rw [made_str]; rfl
  rw [en] at q
  refine b_cons ?_
  refine s_if ?_
  refine nt_not ?_
  refine nt_val ?_
  refine n_fn (r_law_is_part T) hr ?_
  refine na_cons ?_
  refine n_ixt (fun _ _ => rfl) ?_
  refine n_var 0 ?_
  refine n_int ?_
  refine ⟨_, _, y, rfl, rfl, atI_nat (j := 1) rfl, na_nil ⟨y, rfl, _, rfl, ?_⟩⟩
  refine ite2 (fun h => ?_) (fun h => ?_)
  · refine b_one ?_
    refine s_ret ?_
    refine n_bl ?_
    have e : colPartD y = false := by simpa using h
    rw [e] at q; exact q
  have e : colPartD y = true := by simpa using h
  rw [e, Bool.true_and] at q
  refine b_nil ?_
  -- return [one for one in thing[2:] if one is not None and not _law_is_whole(one)] == []
  refine b_one ?_
  refine s_ret ?_
  refine n_eqE hu ?_
  refine n_lcTi 1 rfl sc__law_is_range.nd (blkOk_by (N := N__law_is_range) (sc := defScope s__law_is_range) (by decide +kernel)) ?_ (fun s' H' C cl fp => pg_name (i := 1) sc__law_is_range.nd rfl (Or.inl rfl))
  refine n_slT ?_
  refine n_var 0 ?_
  show N _ _ _ _ _
  refine n_int ⟨2, rfl, [.str "rows", y, z, v], rfl, ?_⟩
  rw [cut2]
  let bad : PyData → Bool := fun d => !isNone d && !isIntD d
  refine ⟨[z, v], rfl, fun i ω2 acc => ω2 = ω ∧ acc = ([z, v].take i).filter bad, ⟨rfl, rfl⟩, ?_, ?_⟩
  · rintro i ω2 acc D d0 hd0 ⟨rfl, rfl⟩ s' H' C cl fp
    have hz : (List.filter bad (List.take i [z, v])).length < 100000 := Nat.lt_of_le_of_lt (List.length_filter_le _ _) (by rw [List.length_take]; show min i 2 < 100000; omega)
    refine nt_and ?_
    refine nt_notN ?_
    refine n_var 1 ?_
    refine ⟨d0, rfl, ?_⟩
    refine ite2 (fun h1 => ?_) (fun h1 => ?_)
    · refine nt_not ?_
      refine nt_val ?_
      refine n_fn (r_is_whole T) hr ?_
      refine na_cons ?_
      refine n_var 1 ?_
      refine na_nil ?_
      refine ⟨d0, rfl, _, rfl, ?_⟩
      have eb : bad d0 = !isIntD d0 := by show (!isNone d0 && !isIntD d0) = _; rw [h1]; rfl
      refine ite2 (fun h => ?_) (fun h => ?_)
      · intro s2 H2 C2 cl2 fp2
        refine n_var 1 ?_
        refine ⟨d0, rfl, hz, _, rfl, rfl, ?_⟩
        rw [take_filter hd0, if_pos (by rw [eb]; exact h)]
      · refine ⟨_, rfl, rfl, ?_⟩
        rw [take_filter hd0, if_neg (by rw [eb]; exact h), List.append_nil]
    · refine ⟨_, rfl, rfl, ?_⟩
      have eb : bad d0 = false := by show (!isNone d0 && !isIntD d0) = _; rw [Bool.eq_false_iff.mpr h1]; rfl
      rw [take_filter hd0, eb]
      simp
  rintro ω2 fs ⟨rfl, hfs⟩
  have e0 : fs = [z, v].filter bad := hfs
  have bz : bad z = !isEndD z := by show (!isNone z && !isIntD z) = !(isNone z || isIntD z); rw [Bool.not_or]
  have bv : bad v = !isEndD v := by show (!isNone v && !isIntD v) = !(isNone v || isIntD v); rw [Bool.not_or]
  refine n_lst ?_
  refine na_nil ?_
  refine ⟨[], rfl, by decide, fs, rfl, rfl, ?_⟩
  have er : (isEndD z && isEndD v) = decide (fs = []) := by
    rw [e0]
    cases h1 : isEndD z <;> cases h2 : isEndD v <;> simp [List.filter, bz, bv, h1, h2]
  rw [← er]
  exact q
end
section
variable {P : Program} {w : World} {K : PySem.W.Frag} {mg : Str → Option Value} {base : Heap}
/-- a column part -/
def PartOk (d : PyData) : Prop := d = .tuple [.str "lost"] ∨ ∃ (s : Str) (n : Int), (s = "by" ∨ s = "at") ∧ d = .tuple [.str s, .int n] ∧ -100 ≤ n ∧ n ≤ 100
theorem small_shows {n : Int} (h1 : -1000 ≤ n) (h2 : n ≤ 1000) : ShowsN 40 (.int n) := (shows_int (k := 10) (by
  have h : n.natAbs < 2 ^ 11 := by omega
  have := (Nat.log2_lt (n := n.natAbs) (k := 11)) 
  by_cases hz : n.natAbs = 0
  · rw [hz]; decide
  · have := (Nat.log2_lt hz).mpr h
    omega)).mono (by decide)
structure Neat (n k : Nat) (d : PyData) : Prop where
  lay : d.canLay0 = true
  sh : ShowsN n d
  dp : d.depth ≤ k
theorem neat_part {d : PyData} (h : PartOk d) : Neat 200 1 d := by
  rcases h with rfl | ⟨s, n, hs, rfl, h1, h2⟩
  · exact ⟨by decide +kernel, showsN_of (by decide +kernel), by decide +kernel⟩
  · have hd : (PyData.str s).depth = 0 := rfl
    have hsS : ShowsN 40 (.str s) := by rcases hs with rfl | rfl <;> exact showsN_of (by decide +kernel)
    have hl : (PyData.str s).canLay0 = true := by rcases hs with rfl | rfl <;> decide +kernel
    refine ⟨?_, (shows_tuple (n := 40) (p := 0) (ds := [.str s, .int n]) ?_).mono (show 4 + 2 * (40 + 2) ≤ 200 by decide), Nat.le_refl 1⟩
    · show ((PyData.str s).canLay0 && ((PyData.int n).canLay0 && true)) = true
      rw [hl]; rfl
    · intro e he
      simp only [List.mem_cons, List.not_mem_nil, or_false] at he
      rcases he with rfl | rfl
      · exact ⟨hsS, Nat.le_refl 0⟩
      · exact ⟨small_shows (by omega) (by omega), Nat.le_refl 0⟩
/-- a name or range -/
def readD (w : Str) (part : PyData) (rest : List PyData) : PyData := .tuple (.str w :: part :: rest)
def RestOk (w : Str) (rest : List PyData) : Prop := Neat 60 0 (.str w) ∧ rest.length ≤ 2 ∧ ∀ x ∈ rest, Neat 200 1 x ∧ ∀ xs, x = .tuple xs → xs.length ≤ 2
theorem atI_0 {α : Type} {a : α} {r : List α} : atI (a :: r) 0 = some a := atI_nat (j := 0) rfl
theorem atI_1 {α : Type} {a b : α} {r : List α} : atI (a :: b :: r) 1 = some b := atI_nat (j := 1) rfl
theorem lay_all : ∀ {ds : List PyData}, (∀ d ∈ ds, d.canLay0 = true) → PyData.canLayAll0 ds = true
  | [], _ => rfl
  | d :: r, h => by
    show (d.canLay0 && PyData.canLayAll0 r) = true
    rw [h d List.mem_cons_self, lay_all fun e he => h e (List.mem_cons_of_mem _ he)]; rfl
theorem neat_tuple {n k : Nat} {ds : List PyData} (h : ∀ d ∈ ds, Neat n k d) (hk : k < 50) : Neat (4 + ds.length * (n + 2)) (k + 1) (.tuple ds) := by
  have q := shows_tuple (n := n) (p := k) (ds := ds) (fun d hd => ⟨(h d hd).sh, (h d hd).dp⟩) (by omega)
  refine ⟨by simp only [PyData.canLay0]; exact lay_all fun d hd => (h d hd).lay, q, ?_⟩
  have g := (shows_all (n := n) (p := k) (ds := ds) fun d hd => ⟨(h d hd).sh, (h d hd).dp⟩).2.1
  simp only [PyData.depth]
  omega
theorem Neat.shaped {n k : Nat} {d : PyData} (h : Neat n k d) (hk : k ≤ 64) : SeqAt.shaped d = true := shaped_mk h.lay (Nat.le_trans h.dp hk)
theorem Neat.mono {n k m j : Nat} {d : PyData} (h : Neat n k d) (l : n ≤ m) (l2 : k ≤ j) : Neat m j d := ⟨h.lay, h.sh.mono l, Nat.le_trans h.dp l2⟩
theorem neat_read {ww : Str} {part : PyData} {rest : List PyData} (hp : PartOk part) (hr : RestOk ww rest) : Neat 1000 2 (readD ww part rest) := by
  have q := neat_tuple (n := 200) (k := 1) (ds := .str ww :: part :: rest) (by
    intro d hd
    simp only [List.mem_cons] at hd
    rcases hd with rfl | rfl | hd
    · exact hr.1.mono (by decide) (by decide)
    · exact neat_part hp
    · exact (hr.2.2 d hd).1) (by decide)
  refine q.mono ?_ (Nat.le_refl _)
  have : (.str ww :: part :: rest : List PyData).length = rest.length + 2 := rfl
  rw [this]
  have := hr.2.1
  omega
theorem It.mono {n k m j : Nat} {d : PyData} (h : It n k d) (l : n ≤ m) (l2 : k ≤ j) : It m j d := ⟨h.1.mono l, Nat.le_trans h.2 l2⟩
theorem Neat.it {n k : Nat} {d : PyData} (h : Neat n k d) : It n k d := ⟨h.sh, h.dp⟩
theorem cut_mem {α : Type} {xs : List α} {i j : Option Int} {x : α} (h : x ∈ cutD xs i j) : x ∈ xs := List.mem_of_mem_drop (List.mem_of_mem_take h)
theorem cut_len {α : Type} (xs : List α) (i j : Option Int) : (cutD xs i j).length ≤ xs.length := by
  unfold cutD
  rw [List.length_take, List.length_drop]
  omega
theorem it_tup {n k m : Nat} {ds : List PyData} (h : ∀ d ∈ ds, It n k d) (hm : ds.length ≤ m) (hk : k < 50) : It (4 + m * (n + 2)) (k + 1) (.tuple ds) := by
  have q := shows_tuple (n := n) (p := k) (ds := ds) h (by omega)
  refine ⟨q.mono (by have := Nat.mul_le_mul_right (n + 2) hm; omega), ?_⟩
  have g := (shows_all (n := n) (p := k) (ds := ds) h).2.1
  simp only [PyData.depth]
  omega
theorem it_lst {n k m : Nat} {ds : List PyData} (h : ∀ d ∈ ds, It n k d) (hm : ds.length ≤ m) (hk : k < 50) : It (4 + m * (n + 2)) (k + 1) (.list ds) := by
  have q := shows_list (n := n) (p := k) (ds := ds) h (by omega)
  refine ⟨q.mono (by have := Nat.mul_le_mul_right (n + 2) hm; omega), ?_⟩
  have g := (shows_all (n := n) (p := k) (ds := ds) h).2.1
  simp only [PyData.depth]
  omega
theorem isT_tup {d : PyData} (h : isT .tuple d = true) : ∃ xs, d = .tuple xs := by
  cases d <;> first | exact ⟨_, rfl⟩ | exact absurd h (by show ¬ (false = true); decide)
theorem mem_ints {ns : List PyData} (h : ns.all (fun d => match d with | .int i => decide (-100 ≤ i) && decide (i ≤ 100) | _ => false) = true) {d : PyData} (hd : d ∈ ns) : ∃ i, d = .int i ∧ -100 ≤ i ∧ i ≤ 100 := by
  have g := List.all_eq_true.mp h d hd
  cases d with
  | int i =>
    simp only [Bool.and_eq_true, decide_eq_true_eq] at g
    exact ⟨i, rfl, g⟩
  | _ => exact absurd g Bool.false_ne_true
def endOk (d : PyData) : Prop := d = .none ∨ ∃ i, d = .int i ∧ -100 ≤ i ∧ i ≤ 100
theorem neat_end {d : PyData} (h : endOk d) : Neat 200 1 d := by
  rcases h with rfl | ⟨i, rfl, h1, h2⟩
  · exact ⟨rfl, showsN_of (by decide +kernel), by decide +kernel⟩
  · exact ⟨rfl, (small_shows (by omega) (by omega)).mono (by decide), Nat.zero_le _⟩
theorem tup_end {d : PyData} (h : endOk d) : ∀ xs, d = .tuple xs → xs.length ≤ 2 := by
  rintro xs rfl
  rcases h with h | ⟨i, h, _⟩ <;> cases h
theorem neat_str {s : Str} (h1 : showsC 60 (.str s) = true) (h2 : (PyData.str s).canLay0 = true) : Neat 60 0 (.str s) := ⟨h2, showsN_of h1, Nat.le_refl 0⟩
def isNumD : PyData → Bool
  | .int i => decide (-1000000000000 ≤ i) && decide (i ≤ 1000000000000)
  | _ => false
def errs : List PyData := [.str "#lost", .str "#ring", .str "#zero"]
def isErrD : PyData → Bool
  | .str x => inD (.str x) errs
  | _ => false
def isValD (d : PyData) : Bool := isNone d || isIntD d || isErrD d
def plainD : PyData → PyData
  | .none => .int 0
  | d => d
theorem r_is_number (T : Txt K mg) : Rdy P w K mg base 2 "is_number" ["thing"] (con1 fun d => .bool (isNumD d)) := by
  refine rdy T.is_number_ sc_is_number (fun cs ω Φ h => con1_len h) fun X f cdv A outer s H E hX hr cs ω Φ ⟨d, e, q⟩ => ?_
  subst hX; subst e
  refine b_one ?_
  refine s_ret ?_
  refine n_and ?_
  refine n_fn (r_is_integer T) hr ?_
  refine na_cons ?_
  refine n_var 0 ?_
  refine na_nil ?_
  refine ⟨d, rfl, _, rfl, ?_⟩
  refine ite2 (fun h => ?_) (fun h => ?_)
  · obtain ⟨i, rfl⟩ := int_of_isInt h
    refine n_one ?_
    refine n_chainI op_le op_le ?_
    refine n_neg ?_
    refine n_const T.c_FARTHEST ?_
    refine ⟨_, rfl, ?_⟩
    refine n_var 0 ⟨_, _, rfl, rfl, ?_⟩
    refine ite2 (fun h => ?_) (fun h => ?_)
    · refine n_const T.c_FARTHEST ⟨_, rfl, ?_⟩
      have e : isNumD (.int i) = decide (i ≤ 1000000000000) := by show (decide (-1000000000000 ≤ i) && decide (i ≤ 1000000000000)) = _; rw [h]; rfl
      show Φ ω (.dat (.bool (decide (i ≤ 1000000000000))))
      rw [← e]
      exact q
    · have e : isNumD (.int i) = false := by show (decide (-1000000000000 ≤ i) && decide (i ≤ 1000000000000)) = _; rw [Bool.eq_false_iff.mpr h]; rfl
      show Φ ω (.dat (.bool false))
      rw [← e]
      exact q
  · cases d <;> first | exact q | exact absurd rfl h
end
section
/-! ## words -/
def wordIn (w : Str) (ws : List Str) : Bool := ws.any fun v => decide (w = v)
theorem inD_words {w : Str} {ds : List PyData} (ws : List Str) (h : ds = ws.map .str) : inD (.str w) ds = wordIn w ws := by
  subst h
  have e : ∀ a b : Str, eqV (.str a) (.str b) = decide (b = a) := fun a b => by
    rw [Bool.eq_iff_iff, decide_eq_true_eq]
    exact ⟨fun h => (eq_of_beq h).symm, fun h => by rw [h]; exact beq_self_eq_true a⟩
  show ((ws.map PyData.str).map valD).any (fun y => eqV y (.str w)) = ws.any fun v => decide (w = v)
  rw [List.map_map, List.any_map]
  congr 1
  funext v
  exact e v w
theorem wordIn_mem {w : Str} {ws : List Str} (h : wordIn w ws = true) : w ∈ ws := by
  obtain ⟨v, h1, h2⟩ := List.any_eq_true.mp h
  rw [of_decide_eq_true h2]; exact h1
abbrev G3 : List Str := ["sum", "most", "least"]
abbrev R4 : List Str := ["total", "many", "top", "low"]
abbrev E2 : List Str := ["empty", "input"]
abbrev S6 : List Str := ["=", "<>", "<", "<=", ">", ">="]
abbrev L6 : List Str := ["number", "empty", "name", "sum", "times", "total"]
def isSignD : PyData → Bool
  | .str s => wordIn s S6
  | _ => false
/-! ## forms of names and ranges -/
theorem made_form {d : PyData} {w : Str} {m : Nat} (h : isMadeD d w m = true) : ∃ r, d = .tuple (.str w :: r) ∧ r.length + 1 = m := by
  cases d with
  | tuple xs =>
    have q : (decide (xs.length = m) && firstS xs w) = true := h
    rw [Bool.and_eq_true, decide_eq_true_eq] at q
    cases xs with
    | nil => exact absurd q.2 (by show ¬ (false = true); decide)
    | cons x r =>
      cases x with
      | str y =>
        have e : y = w := of_decide_eq_true q.2
        subst e
        exact ⟨r, rfl, q.1⟩
      | _ => exact absurd q.2 (by show ¬ (false = true); decide)
  | _ => cases h
theorem made1 {d : PyData} {w : Str} (h : isMadeD d w 1 = true) : d = .tuple [.str w] := by
  obtain ⟨r, rfl, g⟩ := made_form h
  cases r with
  | nil => rfl
  | cons x r => exact absurd (show r.length + 1 + 1 = 1 from g) (by omega)
theorem made2 {d : PyData} {w : Str} (h : isMadeD d w 2 = true) : ∃ a, d = .tuple [.str w, a] := by
  obtain ⟨r, rfl, g⟩ := made_form h
  match r, g with
  | [a], _ => exact ⟨a, rfl⟩
  | [], g => exact absurd (show 0 + 1 = 2 from g) (by omega)
  | _ :: _ :: q, g => exact absurd (show q.length + 1 + 1 + 1 = 2 from g) (by omega)
theorem made3 {d : PyData} {w : Str} (h : isMadeD d w 3 = true) : ∃ a b, d = .tuple [.str w, a, b] := by
  obtain ⟨r, rfl, g⟩ := made_form h
  match r, g with
  | [a, b], _ => exact ⟨a, b, rfl⟩
  | [], g => exact absurd (show 0 + 1 = 3 from g) (by omega)
  | [_], g => exact absurd (show 1 + 1 = 3 from g) (by omega)
  | _ :: _ :: _ :: q, g => exact absurd (show q.length + 1 + 1 + 1 + 1 = 3 from g) (by omega)
theorem made4 {d : PyData} {w : Str} (h : isMadeD d w 4 = true) : ∃ a b c, d = .tuple [.str w, a, b, c] := by
  obtain ⟨r, rfl, g⟩ := made_form h
  match r, g with
  | [a, b, c], _ => exact ⟨a, b, c, rfl⟩
  | [], g => exact absurd (show 0 + 1 = 4 from g) (by omega)
  | [_], g => exact absurd (show 1 + 1 = 4 from g) (by omega)
  | [_, _], g => exact absurd (show 2 + 1 = 4 from g) (by omega)
  | _ :: _ :: _ :: _ :: q, g => exact absurd (show q.length + 1 + 1 + 1 + 1 + 1 = 4 from g) (by omega)
theorem way_form {d : PyData} (h : isWayD d = true) : ∃ i, d = .tuple [.str "by", .int i] := by
  unfold isWayD at h
  rw [Bool.and_eq_true] at h
  obtain ⟨a, rfl⟩ := made2 h.1
  obtain ⟨i, e⟩ := int_of_isInt h.2
  have e2 : a = .int i := e
  exact ⟨i, by rw [e2]⟩
theorem count_form {d : PyData} {w : Str} (h : isCountD d w = true) : ∃ i, 0 ≤ i ∧ d = .tuple [.str w, .int i] := by
  unfold isCountD at h
  rw [Bool.and_eq_true, Bool.and_eq_true] at h
  obtain ⟨a, rfl⟩ := made2 h.1.1
  obtain ⟨i, e⟩ := int_of_isInt h.1.2
  have e2 : a = .int i := e
  subst e2
  exact ⟨i, of_decide_eq_true h.2, rfl⟩
theorem col_form {d : PyData} (h : colPartD d = true) : d = .tuple [.str "lost"] ∨ (∃ i, d = .tuple [.str "by", .int i]) ∨ ∃ i, 0 ≤ i ∧ d = .tuple [.str "at", .int i] := by
  unfold colPartD at h
  rw [Bool.or_eq_true, Bool.or_eq_true] at h
  rcases h with h | h | h
  · exact .inl (made1 h)
  · exact .inr (.inl (way_form h))
  · exact .inr (.inr (count_form h))
theorem row_form {d : PyData} (h : rowPartD d = true) : d = .tuple [.str "head"] ∨ d = .tuple [.str "foot"] ∨ (∃ i, d = .tuple [.str "by", .int i]) ∨ ∃ i, 0 ≤ i ∧ d = .tuple [.str "last", .int i] := by
  unfold rowPartD at h
  rw [Bool.or_eq_true, Bool.or_eq_true, Bool.or_eq_true] at h
  rcases h with h | h | h | h
  · exact .inl (made1 h)
  · exact .inr (.inl (made1 h))
  · exact .inr (.inr (.inl (way_form h)))
  · exact .inr (.inr (.inr (count_form h)))
theorem end_form {d : PyData} (h : isEndD d = true) : d = .none ∨ ∃ i, d = .int i := by
  unfold isEndD at h
  rw [Bool.or_eq_true] at h
  rcases h with h | h
  · left; cases d <;> first | rfl | cases h
  · exact .inr (int_of_isInt h)
theorem name_form {d : PyData} (h : isNameD d = true) : ∃ a b, d = .tuple [.str "name", a, b] ∧ colPartD a = true ∧ rowPartD b = true := by
  unfold isNameD at h
  rw [Bool.and_eq_true, Bool.and_eq_true] at h
  obtain ⟨a, b, rfl⟩ := made3 h.1
  exact ⟨a, b, rfl, h.2.1, h.2.2⟩
theorem range_form {d : PyData} (h : isRangeD d = true) : ∃ a b c, d = .tuple [.str "rows", a, b, c] ∧ colPartD a = true ∧ isEndD b = true ∧ isEndD c = true := by
  unfold isRangeD at h
  rw [Bool.and_eq_true, Bool.and_eq_true, Bool.and_eq_true] at h
  obtain ⟨a, b, c, rfl⟩ := made4 h.1
  exact ⟨a, b, c, rfl, h.2.1, h.2.2.1, h.2.2.2⟩
theorem name_mk {a b : PyData} (h1 : colPartD a = true) (h2 : rowPartD b = true) : isNameD (.tuple [.str "name", a, b]) = true := by
  unfold isNameD
  rw [show isMadeD (.tuple [.str "name", a, b]) "name" 3 = true from by rw [made_str, decide_eq_true (show ([a, b] : List PyData).length + 1 = 3 from rfl), Bool.true_and]; exact decide_eq_true rfl]
  show (true && (colPartD a && rowPartD b)) = true
  rw [h1, h2]; rfl
theorem range_mk {a b c : PyData} (h1 : colPartD a = true) (h2 : isEndD b = true) (h3 : isEndD c = true) : isRangeD (.tuple [.str "rows", a, b, c]) = true := by
  unfold isRangeD
  rw [show isMadeD (.tuple [.str "rows", a, b, c]) "rows" 4 = true from by rw [made_str, decide_eq_true (show ([a, b, c] : List PyData).length + 1 = 4 from rfl), Bool.true_and]; exact decide_eq_true rfl]
  show (true && (colPartD a && (isEndD b && isEndD c))) = true
  rw [h1, h2, h3]; rfl
/-! ## what lies within -/
def innerD : List PyData → Option (List PyData)
  | .str w :: rest =>
    if wordIn w G3 = true then (match rest with | [.tuple ds] => some ds | _ => none)
    else if w = "times" then (match rest with | [a, b] => if isNumD a = true then some [b] else none | _ => none)
    else if w = "over" then (match rest with | [a, b] => some [a, b] | _ => none)
    else if w = "case" then (match rest with | [a, s, b, c, d] => if isSignD s = true then some [a, b, c, d] else none | _ => none)
    else if wordIn w R4 = true then (match rest with | [r] => if isRangeD r = true then some [] else none | _ => none)
    else if w = "number" then (match rest with | [a] => if isNumD a = true then some [] else none | _ => none)
    else if wordIn w E2 = true then (match rest with | [] => some [] | _ => none)
    else if isNameD (.tuple (.str w :: rest)) = true then some [] else none
  | _ => none
inductive Inn : List PyData → List PyData → Prop
  | gath (w : Str) (ds : List PyData) : w ∈ G3 → Inn [.str w, .tuple ds] ds
  | times (a b : PyData) : isNumD a = true → Inn [.str "times", a, b] [b]
  | over (a b : PyData) : Inn [.str "over", a, b] [a, b]
  | case_ (a s b c d : PyData) : isSignD s = true → Inn [.str "case", a, s, b, c, d] [a, b, c, d]
  | rang (w : Str) (r : PyData) : w ∈ R4 → isRangeD r = true → Inn [.str w, r] []
  | num (a : PyData) : isNumD a = true → Inn [.str "number", a] []
  | bare (w : Str) : w ∈ E2 → Inn [.str w] []
  | name (a b : PyData) : colPartD a = true → rowPartD b = true → Inn [.str "name", a, b] []
theorem inn_of {xs ds : List PyData} (h : innerD xs = some ds) : Inn xs ds := by
  unfold innerD at h
  split at h
  · rename_i w rest
    split at h
    · rename_i hw
      split at h
      · cases h; exact .gath _ _ (wordIn_mem hw)
      · cases h
    split at h
    · rename_i hw
      subst hw
      split at h
      · split at h
        · cases h; exact .times _ _ (by assumption)
        · cases h
      · cases h
    split at h
    · rename_i hw
      subst hw
      split at h
      · cases h; exact .over _ _
      · cases h
    split at h
    · rename_i hw
      subst hw
      split at h
      · split at h
        · cases h; exact .case_ _ _ _ _ _ (by assumption)
        · cases h
      · cases h
    split at h
    · rename_i hw
      split at h
      · split at h
        · cases h; exact .rang _ _ (wordIn_mem hw) (by assumption)
        · cases h
      · cases h
    split at h
    · rename_i hw
      subst hw
      split at h
      · split at h
        · cases h; exact .num _ (by assumption)
        · cases h
      · cases h
    split at h
    · rename_i hw
      split at h
      · cases h; exact .bare _ (wordIn_mem hw)
      · cases h
    split at h
    · rename_i hw
      cases h
      obtain ⟨a, b, e, h1, h2⟩ := name_form hw
      cases e
      exact .name a b h1 h2
    · cases h
  · cases h
theorem inner_gath {w : Str} (rest : List PyData) (h : w ∈ G3) : innerD (.str w :: rest) = (match rest with | [.tuple ds] => some ds | _ => none) := by
  have e : wordIn w G3 = true := List.any_eq_true.mpr ⟨w, h, decide_eq_true rfl⟩
  unfold innerD
  simp only [e, if_true]
theorem inner_times (rest : List PyData) : innerD (.str "times" :: rest) = (match rest with | [a, b] => if isNumD a = true then some [b] else none | _ => none) := by
  have e : wordIn "times" G3 = false := by decide +kernel
  unfold innerD
  simp only [e, Bool.false_eq_true, if_false, if_true]
theorem inner_over (rest : List PyData) : innerD (.str "over" :: rest) = (match rest with | [a, b] => some [a, b] | _ => none) := by
  have e : wordIn "over" G3 = false := by decide +kernel
  have e1 : ¬ ("over" : Str) = "times" := by decide +kernel
  unfold innerD
  simp only [e, e1, Bool.false_eq_true, if_false, if_true]
theorem inner_case (rest : List PyData) : innerD (.str "case" :: rest) = (match rest with | [a, s, b, c, d] => if isSignD s = true then some [a, b, c, d] else none | _ => none) := by
  have e : wordIn "case" G3 = false := by decide +kernel
  have e1 : ¬ ("case" : Str) = "times" := by decide +kernel
  have e2 : ¬ ("case" : Str) = "over" := by decide +kernel
  unfold innerD
  simp only [e, e1, e2, Bool.false_eq_true, if_false, if_true]
theorem inner_rang {w : Str} (rest : List PyData) (h : w ∈ R4) : innerD (.str w :: rest) = (match rest with | [r] => if isRangeD r = true then some [] else none | _ => none) := by
  have e : ∀ w ∈ R4, wordIn w G3 = false ∧ ¬ w = "times" ∧ ¬ w = "over" ∧ ¬ w = "case" ∧ wordIn w R4 = true := by decide +kernel
  obtain ⟨e1, e2, e3, e4, e5⟩ := e w h
  unfold innerD
  simp only [e1, e2, e3, e4, e5, Bool.false_eq_true, if_false, if_true]
theorem inner_num (rest : List PyData) : innerD (.str "number" :: rest) = (match rest with | [a] => if isNumD a = true then some [] else none | _ => none) := by
  have e : wordIn "number" G3 = false ∧ (¬ ("number" : Str) = "times") ∧ (¬ ("number" : Str) = "over") ∧ (¬ ("number" : Str) = "case") ∧ wordIn "number" R4 = false := by decide +kernel
  obtain ⟨e1, e2, e3, e4, e5⟩ := e
  unfold innerD
  simp only [e1, e2, e3, e4, e5, Bool.false_eq_true, if_false, if_true]
theorem inner_bare {w : Str} (rest : List PyData) (h : w ∈ E2) : innerD (.str w :: rest) = (match rest with | [] => some [] | _ => none) := by
  have e : ∀ w ∈ E2, wordIn w G3 = false ∧ ¬ w = "times" ∧ ¬ w = "over" ∧ ¬ w = "case" ∧ wordIn w R4 = false ∧ ¬ w = "number" ∧ wordIn w E2 = true := by decide +kernel
  obtain ⟨e1, e2, e3, e4, e5, e6, e7⟩ := e w h
  unfold innerD
  simp only [e1, e2, e3, e4, e5, e6, e7, Bool.false_eq_true, if_false, if_true]
theorem inner_name (rest : List PyData) : innerD (.str "name" :: rest) = if isNameD (.tuple (.str "name" :: rest)) = true then some [] else none := by
  have e : wordIn "name" G3 = false ∧ (¬ ("name" : Str) = "times") ∧ (¬ ("name" : Str) = "over") ∧ (¬ ("name" : Str) = "case") ∧ wordIn "name" R4 = false ∧ (¬ ("name" : Str) = "number") ∧ wordIn "name" E2 = false := by decide +kernel
  obtain ⟨e1, e2, e3, e4, e5, e6, e7⟩ := e
  unfold innerD
  simp only [e1, e2, e3, e4, e5, e6, e7, Bool.false_eq_true, if_false, if_true]
theorem inn_to {xs ds : List PyData} (h : Inn xs ds) : innerD xs = some ds := by
  cases h with
  | gath w ds h => rw [inner_gath _ h]
  | times a b h => rw [inner_times]; simp only [h, if_true]
  | over a b => rw [inner_over]
  | case_ a s b c d h => rw [inner_case]; simp only [h, if_true]
  | rang w r h h2 => rw [inner_rang _ h]; simp only [h2, if_true]
  | num a h => rw [inner_num]; simp only [h, if_true]
  | bare w h => rw [inner_bare _ h]
  | name a b h1 h2 => rw [inner_name, if_pos (name_mk h1 h2)]
def kidsD : PyData → List PyData
  | .tuple xs => (innerD xs).getD []
  | _ => []
def okD : PyData → Bool
  | .tuple xs => (innerD xs).isSome
  | _ => false
theorem depth_mem : ∀ {xs : List PyData} {x : PyData}, x ∈ xs → x.depth ≤ PyData.depthAll xs
  | y :: r, x, h => by
    simp only [PyData.depthAll]
    rcases List.mem_cons.mp h with rfl | h
    · exact Nat.le_max_left _ _
    · exact Nat.le_trans (depth_mem h) (Nat.le_max_right _ _)
theorem depth_tup {xs : List PyData} {x : PyData} (h : x ∈ xs) : x.depth < (PyData.tuple xs).depth := by
  have := depth_mem h
  simp only [PyData.depth]
  omega
theorem inn_lt {xs ds : List PyData} (h : Inn xs ds) {x : PyData} (hx : x ∈ ds) : x.depth < (PyData.tuple xs).depth := by
  cases h with
  | gath w ds h => exact Nat.lt_trans (depth_tup hx) (depth_tup (List.mem_cons_of_mem _ List.mem_cons_self))
  | times a b h => rw [List.mem_singleton.mp hx]; exact depth_tup (by simp)
  | over a b => simp only [List.mem_cons, List.not_mem_nil, or_false] at hx; rcases hx with rfl | rfl <;> exact depth_tup (by simp only [List.mem_cons, true_or, or_true])
  | case_ a s b c d h => simp only [List.mem_cons, List.not_mem_nil, or_false] at hx; rcases hx with rfl | rfl | rfl | rfl <;> exact depth_tup (by simp only [List.mem_cons, true_or, or_true])
  | rang w r h h2 => cases hx
  | num a h => cases hx
  | bare w h => cases hx
  | name a b h1 h2 => cases hx
theorem kids_inn {d x : PyData} (h : x ∈ kidsD d) : ∃ xs ds, d = .tuple xs ∧ Inn xs ds ∧ x ∈ ds := by
  unfold kidsD at h
  split at h
  · rename_i xs
    cases q : innerD xs with
    | none => rw [q] at h; cases h
    | some ds => rw [q] at h; exact ⟨xs, ds, rfl, inn_of q, h⟩
  · cases h
theorem kids_lt {d x : PyData} (h : x ∈ kidsD d) : x.depth < d.depth := by
  obtain ⟨xs, ds, rfl, h1, h2⟩ := kids_inn h
  exact inn_lt h1 h2
theorem kids_tup {xs ds : List PyData} (h : Inn xs ds) : kidsD (.tuple xs) = ds := by
  show (innerD xs).getD [] = ds
  rw [inn_to h]; rfl
/-! ## folds -/
def fo {α : Type} (f : PyData → List α → α) : Nat → PyData → α
  | 0, d => f d []
  | n + 1, d => f d ((kidsD d).map (fo f n))
def fold {α : Type} (f : PyData → List α → α) (d : PyData) : α := fo f d.depth d
theorem kids_nil {d : PyData} (h : d.depth = 0) : kidsD d = [] := by
  cases q : kidsD d with
  | nil => rfl
  | cons x r =>
    have := kids_lt (d := d) (x := x) (by rw [q]; exact List.mem_cons_self)
    omega
theorem fo_irr {α : Type} {f : PyData → List α → α} : ∀ (n m : Nat) (d : PyData), d.depth ≤ n → d.depth ≤ m → fo f n d = fo f m d
  | 0, 0, d, _, _ => rfl
  | 0, m + 1, d, h, _ => by
    show f d [] = f d ((kidsD d).map (fo f m))
    rw [kids_nil (by omega)]; rfl
  | n + 1, 0, d, _, h => by
    show f d ((kidsD d).map (fo f n)) = f d []
    rw [kids_nil (by omega)]; rfl
  | n + 1, m + 1, d, h1, h2 => by
    show f d ((kidsD d).map (fo f n)) = f d ((kidsD d).map (fo f m))
    congr 1
    refine List.map_congr_left fun x hx => ?_
    have := kids_lt hx
    exact fo_irr n m x (by omega) (by omega)
theorem fold_eq {α : Type} (f : PyData → List α → α) (d : PyData) : fold f d = f d ((kidsD d).map (fold f)) := by
  show fo f d.depth d = _
  rw [fo_irr d.depth (d.depth + 1) d (Nat.le_refl _) (Nat.le_succ _)]
  show f d ((kidsD d).map (fo f d.depth)) = _
  congr 1
  refine List.map_congr_left fun x hx => ?_
  have := kids_lt hx
  exact fo_irr _ _ x (by omega) (Nat.le_refl _)
def isFd (d : PyData) : Bool := fold (fun d rs => okD d && rs.all id) d
theorem isF_eq (d : PyData) : isFd d = (okD d && (kidsD d).all isFd) := by
  show fold _ d = _
  rw [fold_eq, List.all_map]; rfl
theorem isF_tup (xs : List PyData) : isFd (.tuple xs) = (match innerD xs with | some ds => ds.all isFd | none => false) := by
  rw [isF_eq]
  show ((innerD xs).isSome && ((innerD xs).getD []).all isFd) = _
  cases innerD xs <;> rfl
theorem isF_not {d : PyData} (h : isT .tuple d = false) : isFd d = false := by
  rw [isF_eq]
  cases d <;> first | rfl | cases h
theorem isF_form {d : PyData} (h : isFd d = true) : ∃ xs ds, d = .tuple xs ∧ Inn xs ds ∧ ∀ x ∈ ds, isFd x = true := by
  cases d with
  | tuple xs =>
    rw [isF_tup] at h
    cases q : innerD xs with
    | none => rw [q] at h; cases h
    | some ds => rw [q] at h; exact ⟨xs, ds, rfl, inn_of q, List.all_eq_true.mp h⟩
  | _ => rw [isF_not rfl] at h; cases h
theorem isF_mk {xs ds : List PyData} (h : Inn xs ds) (h2 : ∀ x ∈ ds, isFd x = true) : isFd (.tuple xs) = true := by
  rw [isF_tup, inn_to h]
  exact List.all_eq_true.mpr h2
theorem F_ind {C : PyData → Prop} (h : ∀ xs ds, Inn xs ds → (∀ x ∈ ds, isFd x = true ∧ C x) → C (.tuple xs)) : ∀ (n : Nat) (d : PyData), d.depth < n → isFd d = true → C d
  | 0, d, hn, _ => absurd hn (Nat.not_lt_zero _)
  | n + 1, d, hn, hF => by
    obtain ⟨xs, ds, rfl, h1, h2⟩ := isF_form hF
    refine h xs ds h1 fun x hx => ⟨h2 x hx, ?_⟩
    have := inn_lt h1 hx
    exact F_ind h n x (by omega) (h2 x hx)
theorem F_rec {C : PyData → Prop} {d : PyData} (hF : isFd d = true) (h : ∀ xs ds, Inn xs ds → (∀ x ∈ ds, isFd x = true ∧ C x) → C (.tuple xs)) : C d :=
  F_ind h (d.depth + 1) d (Nat.lt_succ_self _) hF
end
section
theorem any_cong {f g : PyData → Bool} : ∀ {ds : List PyData}, (∀ x ∈ ds, f x = g x) → ds.any f = ds.any g
  | [], _ => rfl
  | y :: r, h => by rw [List.any_cons, List.any_cons, h y List.mem_cons_self, any_cong fun x hx => h x (List.mem_cons_of_mem _ hx)]
theorem all_cong {f g : PyData → Bool} : ∀ {ds : List PyData}, (∀ x ∈ ds, f x = g x) → ds.all f = ds.all g
  | [], _ => rfl
  | y :: r, h => by rw [List.all_cons, List.all_cons, h y List.mem_cons_self, all_cong fun x hx => h x (List.mem_cons_of_mem _ hx)]
/-! ## sizes -/
theorem w3 : (∀ w ∈ G3, 32 ≤ lenB (.str w)) ∧ (∀ w ∈ R4, 32 ≤ lenB (.str w)) ∧ (∀ w ∈ E2, 32 ≤ lenB (.str w)) ∧ 32 ≤ lenB (.str "times") ∧ 32 ≤ lenB (.str "over") ∧ 32 ≤ lenB (.str "case") ∧ 32 ≤ lenB (.str "number") ∧ 32 ≤ lenB (.str "name") := by decide +kernel
theorem mem_lenA : ∀ {ds : List PyData} {x : PyData}, x ∈ ds → lenB x + 2 ≤ lenA ds
  | y :: r, x, h => by
    show lenB x + 2 ≤ lenB y + 2 + lenA r
    rcases List.mem_cons.mp h with rfl | h
    · omega
    · have := mem_lenA h; omega
theorem inn_lenA {xs ds : List PyData} (h : Inn xs ds) : lenA ds + 34 ≤ lenA xs := by
  cases h with
  | gath w ds h =>
    have := w3.1 w h
    show lenA ds + 34 ≤ lenB (.str w) + 2 + (4 + lenA ds + 2 + 0)
    omega
  | times a b h =>
    have := w3.2.2.2.1
    show lenB b + 2 + 0 + 34 ≤ lenB (.str "times") + 2 + (lenB a + 2 + (lenB b + 2 + 0))
    omega
  | over a b =>
    have := w3.2.2.2.2.1
    show lenB a + 2 + (lenB b + 2 + 0) + 34 ≤ lenB (.str "over") + 2 + (lenB a + 2 + (lenB b + 2 + 0))
    omega
  | case_ a s b c d h =>
    have := w3.2.2.2.2.2.1
    show lenB a + 2 + (lenB b + 2 + (lenB c + 2 + (lenB d + 2 + 0))) + 34 ≤ lenB (.str "case") + 2 + (lenB a + 2 + (lenB s + 2 + (lenB b + 2 + (lenB c + 2 + (lenB d + 2 + 0)))))
    omega
  | rang w r h h2 =>
    have := w3.2.1 w h
    show 0 + 34 ≤ lenB (.str w) + 2 + (lenB r + 2 + 0)
    omega
  | num a h =>
    have := w3.2.2.2.2.2.2.1
    show 0 + 34 ≤ lenB (.str "number") + 2 + (lenB a + 2 + 0)
    omega
  | bare w h =>
    have := w3.2.2.1 w h
    show 0 + 34 ≤ lenB (.str w) + 2 + 0
    omega
  | name a b h1 h2 =>
    have := w3.2.2.2.2.2.2.2
    show 0 + 34 ≤ lenB (.str "name") + 2 + (lenB a + 2 + (lenB b + 2 + 0))
    omega
theorem showall_mem : ∀ {xs : List PyData} {x : PyData}, PyData.showableAll xs = true → x ∈ xs → x.showable = true
  | y :: r, x, h, hx => by
    have h' : (y.showable && PyData.showableAll r) = true := h
    rw [Bool.and_eq_true] at h'
    rcases List.mem_cons.mp hx with rfl | hx
    · exact h'.1
    · exact showall_mem h'.2 hx
theorem showall_mk : ∀ {xs : List PyData}, (∀ x ∈ xs, x.showable = true) → PyData.showableAll xs = true
  | [], _ => rfl
  | y :: r, h => by
    show (y.showable && PyData.showableAll r) = true
    rw [h y List.mem_cons_self, showall_mk fun x hx => h x (List.mem_cons_of_mem _ hx)]; rfl
theorem depth_mk : ∀ {xs : List PyData} {k : Nat}, (∀ x ∈ xs, x.depth ≤ k) → PyData.depthAll xs ≤ k
  | [], _, _ => Nat.zero_le _
  | y :: r, k, h => by
    simp only [PyData.depthAll]
    exact Nat.max_le.mpr ⟨h y List.mem_cons_self, depth_mk fun x hx => h x (List.mem_cons_of_mem _ hx)⟩
theorem inn_show {xs ds : List PyData} (h : Inn xs ds) (hs : PyData.showableAll xs = true) {x : PyData} (hx : x ∈ ds) : x.showable = true := by
  cases h with
  | gath w ds h =>
    have q := showall_mem hs (x := .tuple ds) (by simp only [List.mem_cons, true_or, or_true])
    exact showall_mem (xs := ds) q hx
  | times a b h => rw [List.mem_singleton.mp hx]; exact showall_mem hs (by simp only [List.mem_cons, true_or, or_true])
  | over a b => exact showall_mem hs (List.mem_cons_of_mem _ hx)
  | case_ a s b c d h =>
    simp only [List.mem_cons, List.not_mem_nil, or_false] at hx
    rcases hx with rfl | rfl | rfl | rfl <;> exact showall_mem hs (by simp only [List.mem_cons, true_or, or_true])
  | rang w r h h2 => cases hx
  | num a h => cases hx
  | bare w h => cases hx
  | name a b h1 h2 => cases hx
/-- a formula, of a size that is shown -/
structure FOk (d : PyData) : Prop where
  f : isFd d = true
  ok : d.showable = true
  dp : d.depth ≤ 60
  sz : lenB d ≤ 2900000
theorem FOk.of {n : Nat} {d : PyData} (h : isFd d = true) (s : ShowsN n d) (hn : n ≤ 2900000) : FOk d := ⟨h, s.ok, s.dp, Nat.le_trans s.sz hn⟩
theorem FOk.form {d : PyData} (h : FOk d) : ∃ xs ds, d = .tuple xs ∧ Inn xs ds ∧ kidsD d = ds ∧ (∀ x ∈ ds, FOk x ∧ x.depth < d.depth) ∧ lenA ds + 38 ≤ lenB d := by
  obtain ⟨xs, ds, rfl, h1, h2⟩ := isF_form h.f
  have q := inn_lenA h1
  have e : lenB (.tuple xs) = 4 + lenA xs := rfl
  refine ⟨xs, ds, rfl, h1, kids_tup h1, fun x hx => ⟨⟨h2 x hx, inn_show h1 h.ok hx, ?_, ?_⟩, inn_lt h1 hx⟩, by omega⟩
  · have := inn_lt h1 hx; have := h.dp; omega
  · have := mem_lenA hx; have := h.sz; omega
/-! ## what a formula reads, how deep it is, all that lies within -/
def wordD : PyData → Str
  | .tuple (.str w :: _) => w
  | _ => ""
def readsF (d : PyData) (rs : List (List PyData)) : List PyData := if wordD d = "name" then [d] else if wordIn (wordD d) R4 = true then [itemD d 1] else rs.flatten
def readsD : PyData → List PyData := fold readsF
def deepF (_ : PyData) (rs : List Int) : Int := rs.foldr (fun r m => max (1 + r) m) 0
def deepD : PyData → Int := fold deepF
def allF (d : PyData) (rs : List (List PyData)) : List PyData := d :: rs.flatten
def allD : PyData → List PyData := fold allF
def inpF (d : PyData) (rs : List Bool) : Bool := decide (wordD d = "input") || rs.any id
def inpD : PyData → Bool := fold inpF
def plF (d : PyData) (rs : List Bool) : Bool := wordIn (wordD d) L6 && rs.all id
def plD : PyData → Bool := fold plF
theorem reads_eq (d : PyData) : readsD d = readsF d ((kidsD d).map readsD) := fold_eq _ d
theorem deep_eq (d : PyData) : deepD d = deepF d ((kidsD d).map deepD) := fold_eq _ d
theorem all_eq (d : PyData) : allD d = allF d ((kidsD d).map allD) := fold_eq _ d
theorem inp_eq (d : PyData) : inpD d = inpF d ((kidsD d).map inpD) := fold_eq _ d
theorem pl_eq (d : PyData) : plD d = plF d ((kidsD d).map plD) := fold_eq _ d
theorem flat_lenA {f : PyData → List PyData} : ∀ {ds : List PyData}, (∀ x ∈ ds, lenA (f x) ≤ lenB x + 2) → lenA (ds.map f).flatten ≤ lenA ds
  | [], _ => Nat.le_refl _
  | y :: r, h => by
    show lenA (f y ++ (r.map f).flatten) ≤ lenB y + 2 + lenA r
    rw [lenA_append]
    exact Nat.add_le_add (h y List.mem_cons_self) (flat_lenA fun x hx => h x (List.mem_cons_of_mem _ hx))
theorem flat_len {f : PyData → List PyData} : ∀ {ds : List PyData}, (∀ x ∈ ds, 30 * (f x).length ≤ lenB x) → 30 * (ds.map f).flatten.length ≤ lenA ds
  | [], _ => Nat.le_refl _
  | y :: r, h => by
    show 30 * (f y ++ (r.map f).flatten).length ≤ lenB y + 2 + lenA r
    rw [List.length_append]
    have h1 := h y List.mem_cons_self
    have h2 := flat_len (f := f) (ds := r) fun x hx => h x (List.mem_cons_of_mem _ hx)
    omega
theorem inn_word {xs ds : List PyData} (h : Inn xs ds) : ∃ w rest, xs = .str w :: rest ∧ 32 ≤ lenB (.str w) := by
  cases h with
  | gath w ds h => exact ⟨_, _, rfl, w3.1 w h⟩
  | times a b h => exact ⟨_, _, rfl, w3.2.2.2.1⟩
  | over a b => exact ⟨_, _, rfl, w3.2.2.2.2.1⟩
  | case_ a s b c d h => exact ⟨_, _, rfl, w3.2.2.2.2.2.1⟩
  | rang w r h h2 => exact ⟨_, _, rfl, w3.2.1 w h⟩
  | num a h => exact ⟨_, _, rfl, w3.2.2.2.2.2.2.1⟩
  | bare w h => exact ⟨_, _, rfl, w3.2.2.1 w h⟩
  | name a b h1 h2 => exact ⟨_, _, rfl, w3.2.2.2.2.2.2.2⟩
theorem inn_size {xs ds : List PyData} (h : Inn xs ds) : lenA ds + 38 ≤ lenB (.tuple xs) := by
  have := inn_lenA h
  show lenA ds + 38 ≤ 4 + lenA xs
  omega
/-- the word and what stands behind it -/
theorem inn_gath {w : Str} {rest ds : List PyData} (h : Inn (.str w :: rest) ds) (hw : wordIn w G3 = true) : rest = [.tuple ds] := by
  have e := inn_to h
  rw [inner_gath _ (wordIn_mem hw)] at e
  split at e
  · cases e; rfl
  · cases e
theorem inn_times {rest ds : List PyData} (h : Inn (.str "times" :: rest) ds) : ∃ a b, rest = [a, b] ∧ ds = [b] ∧ isNumD a = true := by
  have e := inn_to h
  rw [inner_times] at e
  split at e
  · split at e
    · cases e; exact ⟨_, _, rfl, rfl, by assumption⟩
    · cases e
  · cases e
theorem inn_over {rest ds : List PyData} (h : Inn (.str "over" :: rest) ds) : ∃ a b, rest = [a, b] ∧ ds = [a, b] := by
  have e := inn_to h
  rw [inner_over] at e
  split at e
  · cases e; exact ⟨_, _, rfl, rfl⟩
  · cases e
theorem inn_case {rest ds : List PyData} (h : Inn (.str "case" :: rest) ds) : ∃ a s b c d, rest = [a, s, b, c, d] ∧ ds = [a, b, c, d] ∧ isSignD s = true := by
  have e := inn_to h
  rw [inner_case] at e
  split at e
  · split at e
    · cases e; exact ⟨_, _, _, _, _, rfl, rfl, by assumption⟩
    · cases e
  · cases e
theorem inn_rang {w : Str} {rest ds : List PyData} (h : Inn (.str w :: rest) ds) (hw : wordIn w R4 = true) : ∃ r, rest = [r] ∧ ds = [] ∧ isRangeD r = true := by
  have e := inn_to h
  rw [inner_rang _ (wordIn_mem hw)] at e
  split at e
  · split at e
    · cases e; exact ⟨_, rfl, rfl, by assumption⟩
    · cases e
  · cases e
theorem inn_name {rest ds : List PyData} (h : Inn (.str "name" :: rest) ds) : isNameD (.tuple (.str "name" :: rest)) = true ∧ ds = [] := by
  have e := inn_to h
  rw [inner_name] at e
  split at e
  · cases e; exact ⟨by assumption, rfl⟩
  · cases e
theorem inn_input {rest ds : List PyData} (h : Inn (.str "input" :: rest) ds) : rest = [] ∧ ds = [] := by
  have e := inn_to h
  rw [inner_bare _ (by simp only [List.mem_cons, true_or, or_true])] at e
  split at e
  · cases e; exact ⟨rfl, rfl⟩
  · cases e
theorem inn_leaf {w : Str} {rest ds : List PyData} (h : Inn (.str w :: rest) ds) (h1 : ¬ wordIn w G3 = true) (h2 : ¬ w = "times") (h3 : ¬ w = "over") (h4 : ¬ w = "case") : ds = [] := by
  cases h with
  | gath w ds h => exact absurd (List.any_eq_true.mpr ⟨w, h, decide_eq_true rfl⟩) h1
  | times a b h => exact absurd rfl h2
  | over a b => exact absurd rfl h3
  | case_ a s b c d h => exact absurd rfl h4
  | rang w r h h2 => rfl
  | num a h => rfl
  | bare w h => rfl
  | name a b h1 h2 => rfl
/-! ## the reads -/
theorem reads_form {w : Str} {rest ds : List PyData} (h : Inn (.str w :: rest) ds) : readsD (.tuple (.str w :: rest)) = if w = "name" then [.tuple (.str w :: rest)] else if wordIn w R4 = true then [itemD (.tuple (.str w :: rest)) 1] else (ds.map readsD).flatten := by
  rw [reads_eq, kids_tup h]; rfl
theorem reads_size {d : PyData} (h : isFd d = true) : lenA (readsD d) ≤ lenB d + 2 ∧ 30 * (readsD d).length ≤ lenB d := by
  refine F_rec (C := fun d => lenA (readsD d) ≤ lenB d + 2 ∧ 30 * (readsD d).length ≤ lenB d) h fun xs ds hI ih => ?_
  obtain ⟨w, rest, rfl, hw⟩ := inn_word hI
  have hz := inn_size hI
  rw [reads_form hI]
  split
  · exact ⟨Nat.le_refl _, by show 30 ≤ _; omega⟩
  split
  · rename_i hr
    obtain ⟨r, rfl, rfl, _⟩ := inn_rang hI hr
    refine ⟨?_, by show 30 ≤ _; omega⟩
    show lenB r + 2 + 0 ≤ 4 + (lenB (.str w) + 2 + (lenB r + 2 + 0)) + 2
    omega
  · exact ⟨Nat.le_trans (flat_lenA fun x hx => (ih x hx).2.1) (by omega), Nat.le_trans (flat_len fun x hx => (ih x hx).2.2) (by omega)⟩
theorem all_size {d : PyData} (h : isFd d = true) : 30 * (allD d).length ≤ lenB d := by
  refine F_rec (C := fun d => 30 * (allD d).length ≤ lenB d) h fun xs ds hI ih => ?_
  have hz := inn_size hI
  rw [all_eq, kids_tup hI]
  show 30 * ((ds.map allD).flatten.length + 1) ≤ _
  have := flat_len (f := allD) (ds := ds) fun x hx => (ih x hx).2
  omega
/-! ## a formula has no dicts -/
theorem wl : (∀ w ∈ G3 ++ R4 ++ E2 ++ S6, (PyData.str w).canLay0 = true) ∧ (PyData.str "times").canLay0 = true ∧ (PyData.str "over").canLay0 = true ∧ (PyData.str "case").canLay0 = true ∧ (PyData.str "number").canLay0 = true ∧ (PyData.str "name").canLay0 = true ∧ (PyData.str "rows").canLay0 = true ∧ (PyData.str "lost").canLay0 = true ∧ (PyData.str "by").canLay0 = true ∧ (PyData.str "at").canLay0 = true ∧ (PyData.str "head").canLay0 = true ∧ (PyData.str "foot").canLay0 = true ∧ (PyData.str "last").canLay0 = true := by decide +kernel
theorem lay1 {a : PyData} (h : a.canLay0 = true) : (PyData.tuple [a]).canLay0 = true := by
  show (a.canLay0 && true) = true
  rw [h]; rfl
theorem lay2 {a b : PyData} (h : a.canLay0 = true) (h2 : b.canLay0 = true) : (PyData.tuple [a, b]).canLay0 = true := by
  show (a.canLay0 && (b.canLay0 && true)) = true
  rw [h, h2]; rfl
theorem lay3 {a b c : PyData} (h : a.canLay0 = true) (h2 : b.canLay0 = true) (h3 : c.canLay0 = true) : (PyData.tuple [a, b, c]).canLay0 = true := by
  show (a.canLay0 && (b.canLay0 && (c.canLay0 && true))) = true
  rw [h, h2, h3]; rfl
theorem lay_tup {ds : List PyData} (h : ∀ x ∈ ds, x.canLay0 = true) : (PyData.tuple ds).canLay0 = true := by
  simp only [PyData.canLay0]
  exact lay_all h
theorem lay_col {d : PyData} (h : colPartD d = true) : d.canLay0 = true := by
  rcases col_form h with rfl | ⟨i, rfl⟩ | ⟨i, _, rfl⟩
  · exact lay1 wl.2.2.2.2.2.2.2.1
  · exact lay2 wl.2.2.2.2.2.2.2.2.1 rfl
  · exact lay2 wl.2.2.2.2.2.2.2.2.2.1 rfl
theorem lay_row {d : PyData} (h : rowPartD d = true) : d.canLay0 = true := by
  rcases row_form h with rfl | rfl | ⟨i, rfl⟩ | ⟨i, _, rfl⟩
  · exact lay1 wl.2.2.2.2.2.2.2.2.2.2.1
  · exact lay1 wl.2.2.2.2.2.2.2.2.2.2.2.1
  · exact lay2 wl.2.2.2.2.2.2.2.2.1 rfl
  · exact lay2 wl.2.2.2.2.2.2.2.2.2.2.2.2 rfl
theorem lay_end {d : PyData} (h : isEndD d = true) : d.canLay0 = true := by
  rcases end_form h with rfl | ⟨i, rfl⟩ <;> rfl
theorem lay_name {d : PyData} (h : isNameD d = true) : d.canLay0 = true := by
  obtain ⟨a, b, rfl, h1, h2⟩ := name_form h
  exact lay3 wl.2.2.2.2.2.1 (lay_col h1) (lay_row h2)
theorem lay_range {d : PyData} (h : isRangeD d = true) : d.canLay0 = true := by
  obtain ⟨a, b, c, rfl, h1, h2, h3⟩ := range_form h
  refine lay_tup fun x hx => ?_
  simp only [List.mem_cons, List.not_mem_nil, or_false] at hx
  rcases hx with rfl | rfl | rfl | rfl
  · exact wl.2.2.2.2.2.2.1
  · exact lay_col h1
  · exact lay_end h2
  · exact lay_end h3
theorem lay_num {d : PyData} (h : isNumD d = true) : d.canLay0 = true := by
  cases d <;> first | rfl | cases h
theorem lay_sign {d : PyData} (h : isSignD d = true) : d.canLay0 = true := by
  cases d with
  | str s => exact wl.1 s (List.mem_append_right _ (wordIn_mem h))
  | _ => exact absurd h (by show ¬ (false = true); decide)
theorem lay_F {d : PyData} (h : isFd d = true) : d.canLay0 = true := by
  refine F_rec (C := fun d => d.canLay0 = true) h fun xs ds hI ih => ?_
  cases hI with
  | gath w ds h => exact lay2 (wl.1 w (List.mem_append_left _ (List.mem_append_left _ (List.mem_append_left _ h)))) (lay_tup fun x hx => (ih x hx).2)
  | times a b h => exact lay3 wl.2.1 (lay_num h) (ih b (by simp only [List.mem_cons, true_or, or_true])).2
  | over a b => exact lay3 wl.2.2.1 (ih a (by simp only [List.mem_cons, true_or, or_true])).2 (ih b (by simp only [List.mem_cons, true_or, or_true])).2
  | case_ a s b c d h =>
    refine lay_tup fun x hx => ?_
    simp only [List.mem_cons, List.not_mem_nil, or_false] at hx
    rcases hx with rfl | rfl | rfl | rfl | rfl | rfl
    · exact wl.2.2.2.1
    · exact (ih _ (by simp only [List.mem_cons, true_or, or_true])).2
    · exact lay_sign h
    · exact (ih _ (by simp only [List.mem_cons, true_or, or_true])).2
    · exact (ih _ (by simp only [List.mem_cons, true_or, or_true])).2
    · exact (ih _ (by simp only [List.mem_cons, true_or, or_true])).2
  | rang w r h h2 => exact lay2 (wl.1 w (List.mem_append_left _ (List.mem_append_left _ (List.mem_append_right _ h)))) (lay_range h2)
  | num a h => exact lay2 wl.2.2.2.2.1 (lay_num h)
  | bare w h => exact lay1 (wl.1 w (List.mem_append_left _ (List.mem_append_right _ h)))
  | name a b h1 h2 => exact lay_name (name_mk h1 h2)
/-- what is shown and compared, item by item -/
def Gd (k : Nat) (x : PyData) : Prop := x.showable = true ∧ x.depth ≤ k ∧ x.canLay0 = true
theorem Gd.mono {k m : Nat} {x : PyData} (h : Gd k x) (l : k ≤ m) : Gd m x := ⟨h.1, Nat.le_trans h.2.1 l, h.2.2⟩
theorem FOk.gd {d : PyData} (h : FOk d) : Gd d.depth d := ⟨h.ok, Nat.le_refl _, lay_F h.f⟩
theorem reads_ok : ∀ (n : Nat) (d : PyData), d.depth < n → FOk d → ∀ r ∈ readsD d, Gd d.depth r ∧ (isNameD r = true ∨ isRangeD r = true)
  | 0, d, hn, _ => absurd hn (Nat.not_lt_zero _)
  | n + 1, d, hn, hF => by
    obtain ⟨xs, ds, rfl, hI, _, hk, _⟩ := hF.form
    obtain ⟨w, rest, rfl, _⟩ := inn_word hI
    intro r hr
    rw [reads_form hI] at hr
    split at hr
    · rename_i hw
      subst hw
      rw [List.mem_singleton.mp hr]
      exact ⟨hF.gd, .inl (inn_name hI).1⟩
    split at hr
    · rename_i hw
      obtain ⟨q, rfl, rfl, hq⟩ := inn_rang hI hw
      rw [List.mem_singleton.mp hr]
      have hm : q ∈ [PyData.str w, q] := by simp only [List.mem_cons, true_or, or_true]
      exact ⟨⟨showall_mem (xs := [.str w, q]) hF.ok hm, Nat.le_of_lt (depth_tup hm), lay_range hq⟩, .inr hq⟩
    · obtain ⟨l, hl, hr2⟩ := List.mem_flatten.mp hr
      obtain ⟨x, hx, rfl⟩ := List.mem_map.mp hl
      obtain ⟨h1, h2⟩ := reads_ok n x (by have := (hk x hx).2; omega) (hk x hx).1 r hr2
      exact ⟨h1.mono (Nat.le_of_lt (hk x hx).2), h2⟩
theorem all_ok : ∀ (n : Nat) (d : PyData), d.depth < n → FOk d → ∀ r ∈ allD d, FOk r ∧ r.depth ≤ d.depth
  | 0, d, hn, _ => absurd hn (Nat.not_lt_zero _)
  | n + 1, d, hn, hF => by
    obtain ⟨xs, ds, rfl, hI, hkk, hk, _⟩ := hF.form
    intro r hr
    rw [all_eq, hkk] at hr
    rcases List.mem_cons.mp hr with rfl | hr
    · exact ⟨hF, Nat.le_refl _⟩
    · obtain ⟨l, hl, hr2⟩ := List.mem_flatten.mp hr
      obtain ⟨x, hx, rfl⟩ := List.mem_map.mp hl
      obtain ⟨h1, h2⟩ := all_ok n x (by have := (hk x hx).2; omega) (hk x hx).1 r hr2
      exact ⟨h1, by have := (hk x hx).2; omega⟩
theorem gd_list {k : Nat} {xs : List PyData} (hk : k < 60) (h : ∀ x ∈ xs, Gd k x) : SeqAt.shaped (.list xs) = true := by
  refine shaped_mk (show PyData.canLayAll0 xs = true from lay_all fun x hx => (h x hx).2.2) ?_
  have := depth_mk (xs := xs) (k := k) fun x hx => (h x hx).2.1
  simp only [PyData.depth]
  omega
theorem shows_big {d : PyData} (h1 : d.showable = true) (h2 : d.depth ≤ 80) (h3 : lenB d ≤ 16000000) : Shows d := ⟨h1, h2, Nat.le_trans (shown_le d) (Nat.le_trans h3 (by decide))⟩
theorem gd_shows {k : Nat} {xs : List PyData} (hk : k < 60) (h : ∀ x ∈ xs, Gd k x) (hz : lenA xs ≤ 15000000) : Shows (.list xs) := by
  refine shows_big (show PyData.showableAll xs = true from showall_mk fun x hx => (h x hx).1) ?_ (show 2 + lenA xs ≤ _ by omega)
  have := depth_mk (xs := xs) (k := k) fun x hx => (h x hx).2.1
  simp only [PyData.depth]
  omega
/-! ## input, linear -/
theorem word_input {d : PyData} (h : isFd d = true) (hw : wordD d = "input") : d = .tuple [.str "input"] := by
  obtain ⟨xs, ds, rfl, hI, _⟩ := isF_form h
  obtain ⟨w, rest, rfl, _⟩ := inn_word hI
  have e : w = "input" := hw
  subst e
  rw [(inn_input hI).1]
theorem inp_all : ∀ (n : Nat) (d : PyData), d.depth < n → isFd d = true → inpD d = (allD d).any fun x => decide (wordD x = "input")
  | 0, d, hn, _ => absurd hn (Nat.not_lt_zero _)
  | n + 1, d, hn, hF => by
    obtain ⟨xs, ds, rfl, hI, h2⟩ := isF_form hF
    rw [inp_eq, all_eq, kids_tup hI]
    show (_ || (ds.map inpD).any id) = (_ || (ds.map allD).flatten.any _)
    congr 1
    rw [List.any_flatten, List.any_map, List.any_map]
    refine any_cong fun x hx => ?_
    exact inp_all n x (by have := inn_lt hI hx; omega) (h2 x hx)
theorem pl_all : ∀ (n : Nat) (d : PyData), d.depth < n → isFd d = true → plD d = (allD d).all fun x => wordIn (wordD x) L6
  | 0, d, hn, _ => absurd hn (Nat.not_lt_zero _)
  | n + 1, d, hn, hF => by
    obtain ⟨xs, ds, rfl, hI, h2⟩ := isF_form hF
    rw [pl_eq, all_eq, kids_tup hI]
    show (_ && (ds.map plD).all id) = (_ && (ds.map allD).flatten.all _)
    congr 1
    rw [List.all_flatten, List.all_map, List.all_map]
    refine all_cong fun x hx => ?_
    exact pl_all n x (by have := inn_lt hI hx; omega) (h2 x hx)
end
section
variable {P : Program} {w : World} {K : PySem.W.Frag} {mg : Str → Option Value} {base : Heap}
theorem inD_G3 (w : Str) : inD (.str w) [.str "sum", .str "most", .str "least"] = wordIn w G3 := inD_words G3 rfl
theorem inD_R4 (w : Str) : inD (.str w) [.str "total", .str "many", .str "top", .str "low"] = wordIn w R4 := inD_words R4 rfl
theorem inD_E2 (w : Str) : inD (.str w) [.str "empty", .str "input"] = wordIn w E2 := inD_words E2 rfl
theorem inD_S6 (w : Str) : inD (.str w) [.str "=", .str "<>", .str "<", .str "<=", .str ">", .str ">="] = wordIn w S6 := inD_words S6 rfl
theorem inD_L6 (w : Str) : inD (.str w) [.str "number", .str "empty", .str "name", .str "sum", .str "times", .str "total"] = wordIn w L6 := inD_words L6 rfl
theorem r_is_sign (T : Txt K mg) : Rdy P w K mg base 1 "is_sign" ["thing"] (con1 fun d => .bool (isSignD d)) := by
  refine rdy T.is_sign_ sc_is_sign (fun cs ω Φ h => con1_len h) fun X f cdv A outer s H E hX hr cs ω Φ ⟨d, e, q⟩ => ?_
  subst hX; subst e
  try dsimp only at q
  refine b_one ?_
  refine s_ret ?_
  refine n_and ?_
  refine n_isi .str T.z_isinstance T.z_str ?_
  refine n_var 0 ?_
  refine ⟨d, rfl, _, rfl, ?_⟩
  refine ite2 (fun h => ?_) (fun h => ?_)
  · obtain ⟨y, rfl⟩ : ∃ y, d = .str y := by cases d <;> first | exact ⟨_, rfl⟩ | cases h
    refine n_one ?_
    refine n_in (by rfl) ?_
    refine n_var 0 ?_
    refine n_const T.c_SIGNS ?_
    refine ⟨_, _, rfl, .inl rfl, rfl, rfl, ?_⟩
    rw [inD_S6]
    exact q
  · cases d <;> first | exact q | exact absurd rfl h
theorem beq_len {r : List PyData} {k : Nat} : (((r.length : Int)) == (k : Int)) = decide (r.length = k) := by
  rw [Bool.eq_iff_iff, beq_iff_eq, decide_eq_true_eq]
  omega
theorem len1 {r : List PyData} (h : r.length = 1) : ∃ a, r = [a] := by
  match r, h with
  | [a], _ => exact ⟨a, rfl⟩
theorem len2 {r : List PyData} (h : r.length = 2) : ∃ a b, r = [a, b] := by
  match r, h with
  | [a, b], _ => exact ⟨a, b, rfl⟩
theorem len5 {r : List PyData} (h : r.length = 5) : ∃ a b c d e, r = [a, b, c, d, e] := by
  match r, h with
  | [a, b, c, d, e], _ => exact ⟨a, b, c, d, e, rfl⟩
theorem cutr (a : PyData) (r : List PyData) : cutD (a :: r) (some 1) none = r := by
  unfold cutD
  have e : HT.sIx (a :: r).length 0 (some 1) = 1 := by
    rw [show HT.sIx (a :: r).length 0 (some 1) = min 1 (a :: r).length from HT.sIx_nat _ _ 1, List.length_cons]
    omega
  have e2 : HT.sIx (a :: r).length (a :: r).length none = (a :: r).length := rfl
  rw [e, e2, List.drop_one]
  exact List.take_of_length_le (by rw [List.length_tail, List.length_cons]; omega)
def isC (n : Nat) : Con := fun cs ω Φ => ∃ d, cs = [.dat d] ∧ d.depth < n ∧ Φ ω (.dat (.bool (isFd d)))
def areC (n : Nat) : Con := fun cs ω Φ => ∃ ds, cs = [.dat (.tuple ds)] ∧ (∀ x ∈ ds, x.depth < n) ∧ Φ ω (.dat (.bool (ds.all isFd)))
theorem r_are (T : Txt K mg) {n lv : Nat} (R : Rdy P w K mg base lv "is_formula" ["thing"] (isC n)) : Rdy P w K mg base (lv + 1) "_are_formulas" ["things"] (areC n) := by
  refine rdy T._are_formulas_ sc__are_formulas (fun cs ω Φ ⟨_, e, _⟩ => by rw [e]; rfl) fun X f cdv A outer s H E hX hr cs ω Φ ⟨ds, e, hn, q⟩ => ?_
  subst hX; subst e
  refine b_cons ?_
  refine s_forT 1 PassesOwn.never rfl sc__are_formulas.nd ?_
  refine n_var 0 ?_
  refine ⟨ds, rfl, fun i ω2 δ2 => ω2 = ω ∧ (ds.take i).all isFd = true ∧ ∃ x1, δ2 = [some (.dat (.tuple ds)), x1], ⟨rfl, rfl, _, rfl⟩, ?_, ?_⟩
  · rintro i ω2 δ2 d hd ⟨rfl, h1, x1, rfl⟩
    have hm := List.mem_of_getElem? hd
    refine b_one ?_
    refine s_if ?_
    refine nt_not ?_
    refine nt_val ?_
    refine n_fn R hr (hjk := Nat.le_refl _) ?_
    refine na_cons ?_
    refine n_var 1 ?_
    refine na_nil ?_
    refine ⟨d, rfl, hn d hm, _, rfl, ?_⟩
    refine ite2 (fun h => ?_) (fun h => ?_)
    · refine b_one ?_
      refine s_ret ?_
      refine n_bl ?_
      have e : ds.all isFd = false := by
        rw [Bool.eq_false_iff]
        intro z
        have := List.all_eq_true.mp z d hm
        rw [this] at h
        cases h
      rw [e] at q
      exact q
    · refine b_nil ⟨rfl, ?_, _, rfl⟩
      rw [List.take_add_one, hd, List.all_append, h1]
      show (true && (isFd d && true)) = true
      cases hz : isFd d with
      | true => rfl
      | false => rw [hz] at h; exact absurd rfl h
  · rintro ω2 δ2 ⟨rfl, h1, x1, rfl⟩
    refine b_one ?_
    refine s_ret ?_
    refine n_bl ?_
    rw [List.take_length] at h1
    rw [h1] at q
    exact q
theorem wE2 {w : Str} : wordIn w E2 = true → w = "empty" ∨ w = "input" := fun h => by
  have := wordIn_mem h
  simpa only [List.mem_cons, List.not_mem_nil, or_false] using this
/-- none of the words -/
theorem inner_none {w : Str} {rest : List PyData} (h1 : ¬ w = "name") (h2 : ¬ wordIn w E2 = true) (h3 : ¬ w = "number") (h4 : ¬ wordIn w R4 = true) (h5 : ¬ wordIn w G3 = true) (h6 : ¬ w = "times") (h7 : ¬ w = "over") (h8 : ¬ w = "case") : innerD (.str w :: rest) = none := by
  unfold innerD
  simp only [h2, h3, h4, h5, h6, h7, h8, Bool.false_eq_true, if_false]
  split
  · rename_i hn
    obtain ⟨a, b, e, _⟩ := name_form hn
    cases e
    exact absurd rfl h1
  · rfl
theorem bool_if {p : Bool → Prop} {b : Bool} (q : p (match (if b = true then some [] else none : Option (List PyData)) with | some ds => ds.all isFd | none => false)) : p b := by cases b <;> exact q
theorem r_is_formula (T : Txt K mg) {n lv : Nat} (h4 : 4 ≤ lv) (R : Rdy P w K mg base lv "is_formula" ["thing"] (isC n)) : Rdy P w K mg base (lv + 2) "is_formula" ["thing"] (isC (n + 1)) := by
  refine rdy (k := lv + 1) T.is_formula_ sc_is_formula (fun cs ω Φ ⟨_, e, _⟩ => by rw [e]; rfl) fun X f cdv A outer s H E hX hr cs ω Φ ⟨d, e, hn, q⟩ => ?_
  have hu := room_u64 hr
  subst hX; subst e
  refine b_cons ?_
  refine s_if ?_
  refine nt_w ?_
  refine nw_or ?_
  refine nt_not ?_
  refine nt_val ?_
  refine n_isi .tuple T.z_isinstance T.z_tuple ?_
  refine n_var 0 ?_
  refine ⟨d, rfl, _, rfl, ?_⟩
  refine ite2 (fun h => ?_) (fun h => ?_)
  · refine b_one ?_
    refine s_ret ?_
    refine n_bl ?_
    rw [isF_not (by simpa using h)] at q
    exact q
  obtain ⟨xs, rfl⟩ : ∃ xs, d = .tuple xs := by cases d <;> first | exact ⟨_, rfl⟩ | exact absurd rfl h
  rw [isF_tup] at q
  refine nw_or ?_
  refine nt_eq hu ?_
  refine n_len T.z_len ?_
  refine n_var 0 ?_
  refine ⟨_, _, rfl, rfl, ?_⟩
  refine n_int ⟨_, _, rfl, rfl, rfl, rfl, ?_⟩
  rw [eqv_ints]
  cases xs with
  | nil =>
    refine ite2 (fun _ => ?_) (fun h => absurd rfl h)
    refine b_one ?_
    refine s_ret ?_
    refine n_bl ?_
    exact q
  | cons x r =>
    refine ite2 (fun h => absurd (eq_of_beq h) (by show ¬ (((r.length + 1 : Nat) : Int) = 0); omega)) (fun _ => ?_)
    refine nw_or1 ?_
    refine nt_not ?_
    refine nt_val ?_
    refine n_isi .str T.z_isinstance T.z_str ?_
    refine n_ixt (fun _ _ => rfl) ?_
    refine n_var 0 ?_
    refine n_int ?_
    refine ⟨_, _, x, rfl, rfl, atI_nat (j := 0) rfl, x, rfl, _, rfl, ?_⟩
    refine ite2 (fun h => ?_) (fun h => ?_)
    · refine b_one ?_
      refine s_ret ?_
      refine n_bl ?_
      have e : innerD (x :: r) = none := by cases x <;> first | rfl | cases h
      rw [e] at q
      exact q
    obtain ⟨wd, rfl⟩ : ∃ s, x = .str s := by cases x <;> first | exact ⟨_, rfl⟩ | exact absurd rfl h
    refine b_nil ?_
    -- word, rest = thing[0], thing[1:]
    refine b_cons ?_
    refine s_par 1 2 rfl sc_is_formula.nd ?_
    refine na_cons ?_
    refine n_ixt (fun _ _ => rfl) ?_
    refine n_var 0 ?_
    refine n_int ?_
    refine ⟨_, _, _, rfl, rfl, atI_0, ?_⟩
    refine na_cons ?_
    refine n_slT ?_
    refine n_var 0 ?_
    show N _ _ _ _ _
    refine n_int ⟨1, rfl, _, rfl, na_nil ⟨_, _, rfl, ?_⟩⟩
    rw [show cutD (PyData.str wd :: r) (some 1) none = r from cutr _ r]
    have dr : ∀ x ∈ r, x.depth < n := fun x hx => by have := depth_tup (xs := .str wd :: r) (List.mem_cons_of_mem _ hx); omega
    -- name
    refine b_cons ?_
    refine s_if ?_
    refine nt_eqS ?_
    refine n_var 1 ?_
    refine n_str ?_
    refine ⟨_, _, rfl, rfl, ?_⟩
    refine ite2 (fun h => ?_) (fun k1 => ?_)
    · have h := of_decide_eq_true h
      subst h
      rw [inner_name] at q
      refine b_one ?_
      refine s_ret ?_
      refine n_fn (r_is_name T) hr (hjk := by omega) ?_
      refine na_cons ?_
      refine n_var 0 ?_
      refine na_nil ?_
      refine ⟨_, rfl, ?_⟩
      exact bool_if (p := fun z => Φ ω (.dat (.bool z))) q
    refine b_nil ?_
    -- empty, input
    refine b_cons ?_
    refine s_if ?_
    refine nt_in (by rfl) ?_
    refine n_var 1 ?_
    repeat walk_at "dx"
    refine ⟨_, _, rfl, .inl rfl, rfl, rfl, ?_⟩
    rw [inD_E2]
    refine ite2 (fun h => ?_) (fun k2 => ?_)
    · rw [inner_bare _ (wordIn_mem h)] at q
      refine b_one ?_
      refine s_ret ?_
      refine n_eq hu ?_
      refine n_len T.z_len ?_
      refine n_var 2 ?_
      refine ⟨_, _, rfl, rfl, ?_⟩
      refine n_int ⟨_, _, rfl, rfl, rfl, rfl, ?_⟩
      rw [eqv_ints]
      cases r with
      | nil => exact q
      | cons x r =>
        show Φ ω (.dat (.bool ((((x :: r).length : Nat) : Int) == ((0 : Nat) : Int))))
        rw [beq_len, decide_eq_false (by show ¬ (r.length + 1 = 0); omega)]
        exact q
    refine b_nil ?_
    -- number
    refine b_cons ?_
    refine s_if ?_
    refine nt_eqS ?_
    refine n_var 1 ?_
    refine n_str ?_
    refine ⟨_, _, rfl, rfl, ?_⟩
    refine ite2 (fun h => ?_) (fun k3 => ?_)
    · have h := of_decide_eq_true h
      subst h
      rw [inner_num] at q
      refine b_one ?_
      refine s_ret ?_
      refine n_and ?_
      refine n_eq hu ?_
      refine n_len T.z_len ?_
      refine n_var 2 ?_
      refine ⟨_, _, rfl, rfl, ?_⟩
      refine n_int ⟨_, _, rfl, rfl, rfl, rfl, _, rfl, ?_⟩
      rw [eqv_ints, show ((1 : Int)) = ((1 : Nat) : Int) from rfl, beq_len]
      refine ite2 (fun h => ?_) (fun h => ?_)
      · obtain ⟨a, rfl⟩ := len1 (of_decide_eq_true h)
        refine n_one ?_
        refine n_fn (r_is_number T) hr (hjk := by omega) ?_
        refine na_cons ?_
        refine n_ixt (fun _ _ => rfl) ?_
        refine n_var 2 ?_
        refine n_int ?_
        refine ⟨_, _, _, rfl, rfl, atI_0, na_nil ⟨_, rfl, ?_⟩⟩
        exact bool_if (p := fun z => Φ ω (.dat (.bool z))) q
      · have hl : ¬ r.length = 1 := fun z => h (decide_eq_true z)
        split at q
        · rename_i e
          split at e
          · exact absurd rfl hl
          · cases e
        · exact q
    refine b_nil ?_
    -- total, many, top, low
    refine b_cons ?_
    refine s_if ?_
    refine nt_in (by rfl) ?_
    refine n_var 1 ?_
    refine n_const T.c_RANGING ?_
    refine ⟨_, _, rfl, .inl rfl, rfl, rfl, ?_⟩
    rw [inD_R4]
    refine ite2 (fun h => ?_) (fun k4 => ?_)
    · rw [inner_rang _ (wordIn_mem h)] at q
      refine b_one ?_
      refine s_ret ?_
      refine n_and ?_
      refine n_eq hu ?_
      refine n_len T.z_len ?_
      refine n_var 2 ?_
      refine ⟨_, _, rfl, rfl, ?_⟩
      refine n_int ⟨_, _, rfl, rfl, rfl, rfl, _, rfl, ?_⟩
      rw [eqv_ints, show ((1 : Int)) = ((1 : Nat) : Int) from rfl, beq_len]
      refine ite2 (fun h => ?_) (fun h => ?_)
      · obtain ⟨a, rfl⟩ := len1 (of_decide_eq_true h)
        refine n_one ?_
        refine n_fn (r_is_range T) hr (hjk := by omega) ?_
        refine na_cons ?_
        refine n_ixt (fun _ _ => rfl) ?_
        refine n_var 2 ?_
        refine n_int ?_
        refine ⟨_, _, _, rfl, rfl, atI_0, na_nil ⟨_, rfl, ?_⟩⟩
        exact bool_if (p := fun z => Φ ω (.dat (.bool z))) q
      · have hl : ¬ r.length = 1 := fun z => h (decide_eq_true z)
        split at q
        · rename_i e
          split at e
          · exact absurd rfl hl
          · cases e
        · exact q
    refine b_nil ?_
    -- sum, most, least
    refine b_cons ?_
    refine s_if ?_
    refine nt_in (by rfl) ?_
    refine n_var 1 ?_
    refine n_const T.c_GATHERING ?_
    refine ⟨_, _, rfl, .inl rfl, rfl, rfl, ?_⟩
    rw [inD_G3]
    refine ite2 (fun h => ?_) (fun k5 => ?_)
    · rw [inner_gath _ (wordIn_mem h)] at q
      refine b_one ?_
      refine s_ret ?_
      refine n_and ?_
      refine n_eq hu ?_
      refine n_len T.z_len ?_
      refine n_var 2 ?_
      refine ⟨_, _, rfl, rfl, ?_⟩
      refine n_int ⟨_, _, rfl, rfl, rfl, rfl, _, rfl, ?_⟩
      rw [eqv_ints, show ((1 : Int)) = ((1 : Nat) : Int) from rfl, beq_len]
      refine ite2 (fun h => ?_) (fun h => ?_)
      · obtain ⟨a, rfl⟩ := len1 (of_decide_eq_true h)
        refine n_and ?_
        refine n_isi .tuple T.z_isinstance T.z_tuple ?_
        refine n_ixt (fun _ _ => rfl) ?_
        refine n_var 2 ?_
        refine n_int ?_
        refine ⟨_, _, _, rfl, rfl, atI_0, _, rfl, _, rfl, ?_⟩
        refine ite2 (fun h => ?_) (fun h => ?_)
        · obtain ⟨ds, rfl⟩ := isT_tup h
          refine n_one ?_
          refine n_fn (r_are T R) hr (hjk := Nat.le_refl _) ?_
          refine na_cons ?_
          refine n_ixt (fun _ _ => rfl) ?_
          refine n_var 2 ?_
          refine n_int ?_
          refine ⟨_, _, _, rfl, rfl, atI_0, na_nil ⟨_, rfl, fun x hx => ?_, q⟩⟩
          have h1 := depth_tup (xs := ds) hx
          have h2 := dr (.tuple ds) List.mem_cons_self
          omega
        · split at q
          · rename_i e
            split at e
            · rename_i e2
              cases e2
              exact absurd rfl h
            · cases e
          · exact q
      · have hl : ¬ r.length = 1 := fun z => h (decide_eq_true z)
        split at q
        · rename_i e
          split at e
          · exact absurd rfl hl
          · cases e
        · exact q
    refine b_nil ?_
    -- times
    refine b_cons ?_
    refine s_if ?_
    refine nt_eqS ?_
    refine n_var 1 ?_
    refine n_str ?_
    refine ⟨_, _, rfl, rfl, ?_⟩
    refine ite2 (fun h => ?_) (fun k6 => ?_)
    · have h := of_decide_eq_true h
      subst h
      rw [inner_times] at q
      refine b_one ?_
      refine s_ret ?_
      refine n_and ?_
      refine n_eq hu ?_
      refine n_len T.z_len ?_
      refine n_var 2 ?_
      refine ⟨_, _, rfl, rfl, ?_⟩
      refine n_int ⟨_, _, rfl, rfl, rfl, rfl, _, rfl, ?_⟩
      rw [eqv_ints, show ((2 : Int)) = ((2 : Nat) : Int) from rfl, beq_len]
      refine ite2 (fun h => ?_) (fun h => ?_)
      · obtain ⟨a, b, rfl⟩ := len2 (of_decide_eq_true h)
        refine n_and ?_
        refine n_fn (r_is_number T) hr (hjk := by omega) ?_
        refine na_cons ?_
        refine n_ixt (fun _ _ => rfl) ?_
        refine n_var 2 ?_
        refine n_int ?_
        refine ⟨_, _, _, rfl, rfl, atI_0, na_nil ⟨_, rfl, _, rfl, ?_⟩⟩
        refine ite2 (fun h => ?_) (fun h => ?_)
        · simp only [h, if_true] at q
          refine n_one ?_
          refine n_fn R hr (hjk := by omega) ?_
          refine na_cons ?_
          refine n_ixt (fun _ _ => rfl) ?_
          refine n_var 2 ?_
          refine n_int ?_
          refine ⟨_, _, _, rfl, rfl, atI_1, na_nil ⟨b, rfl, dr b (by simp only [List.mem_cons, true_or, or_true]), ?_⟩⟩
          have e : ([b] : List PyData).all isFd = isFd b := by show (isFd b && true) = _; rw [Bool.and_true]
          rw [e] at q
          exact q
        · simp only [h, Bool.false_eq_true, if_false] at q
          exact q
      · have hl : ¬ r.length = 2 := fun z => h (decide_eq_true z)
        split at q
        · rename_i e
          split at e
          · exact absurd rfl hl
          · cases e
        · exact q
    refine b_nil ?_
    -- over
    refine b_cons ?_
    refine s_if ?_
    refine nt_eqS ?_
    refine n_var 1 ?_
    refine n_str ?_
    refine ⟨_, _, rfl, rfl, ?_⟩
    refine ite2 (fun h => ?_) (fun k7 => ?_)
    · have h := of_decide_eq_true h
      subst h
      rw [inner_over] at q
      refine b_one ?_
      refine s_ret ?_
      refine n_and ?_
      refine n_eq hu ?_
      refine n_len T.z_len ?_
      refine n_var 2 ?_
      refine ⟨_, _, rfl, rfl, ?_⟩
      refine n_int ⟨_, _, rfl, rfl, rfl, rfl, _, rfl, ?_⟩
      rw [eqv_ints, show ((2 : Int)) = ((2 : Nat) : Int) from rfl, beq_len]
      refine ite2 (fun h => ?_) (fun h => ?_)
      · obtain ⟨a, b, rfl⟩ := len2 (of_decide_eq_true h)
        refine n_one ?_
        refine n_fn (r_are T R) hr (hjk := Nat.le_refl _) ?_
        refine na_cons ?_
        refine n_var 2 ?_
        refine na_nil ?_
        exact ⟨_, rfl, dr, q⟩
      · have hl : ¬ r.length = 2 := fun z => h (decide_eq_true z)
        split at q
        · rename_i e
          split at e
          · exact absurd rfl hl
          · cases e
        · exact q
    refine b_nil ?_
    -- case
    refine b_cons ?_
    refine s_if ?_
    refine nt_eqS ?_
    refine n_var 1 ?_
    refine n_str ?_
    refine ⟨_, _, rfl, rfl, ?_⟩
    refine ite2 (fun h => ?_) (fun k8 => ?_)
    · have h := of_decide_eq_true h
      subst h
      rw [inner_case] at q
      refine b_one ?_
      refine s_ret ?_
      refine n_and ?_
      refine n_eq hu ?_
      refine n_len T.z_len ?_
      refine n_var 2 ?_
      refine ⟨_, _, rfl, rfl, ?_⟩
      refine n_int ⟨_, _, rfl, rfl, rfl, rfl, _, rfl, ?_⟩
      rw [eqv_ints, show ((5 : Int)) = ((5 : Nat) : Int) from rfl, beq_len]
      refine ite2 (fun h => ?_) (fun h => ?_)
      · obtain ⟨a, sg, b, c, d, rfl⟩ := len5 (of_decide_eq_true h)
        refine n_and ?_
        refine n_fn (r_is_sign T) hr (hjk := by omega) ?_
        refine na_cons ?_
        refine n_ixt (fun _ _ => rfl) ?_
        refine n_var 2 ?_
        refine n_int ?_
        refine ⟨_, _, _, rfl, rfl, atI_1, na_nil ⟨_, rfl, _, rfl, ?_⟩⟩
        refine ite2 (fun h => ?_) (fun h => ?_)
        · simp only [h, if_true] at q
          refine n_one ?_
          refine n_fn (r_are T R) hr (hjk := Nat.le_refl _) ?_
          refine na_cons ?_
          refine n_catT ?_
          refine n_slT ?_
          refine n_var 2 ?_
          show N _ _ _ _ _
          refine n_int ⟨1, rfl, _, rfl, ?_⟩
          refine n_slT ?_
          refine n_var 2 ?_
          show N _ _ _ _ _
          refine n_int ⟨2, rfl, _, rfl, ?_⟩
          rw [cut1, cut2]
          refine ⟨_, _, rfl, rfl, (show 1 + 3 ≤ 100000 by decide), na_nil ⟨_, rfl, fun x hx => dr x ?_, q⟩⟩
          simp only [List.cons_append, List.nil_append, List.mem_cons, List.not_mem_nil, or_false] at hx ⊢
          rcases hx with rfl | rfl | rfl | rfl <;> simp only [true_or, or_true]
        · simp only [h, Bool.false_eq_true, if_false] at q
          exact q
      · have hl : ¬ r.length = 5 := fun z => h (decide_eq_true z)
        split at q
        · rename_i e
          split at e
          · exact absurd rfl hl
          · cases e
        · exact q
    refine b_nil ?_
    refine b_one ?_
    refine s_ret ?_
    refine n_bl ?_
    rw [inner_none (fun z => k1 (decide_eq_true z)) k2 (fun z => k3 (decide_eq_true z)) k4 k5 (fun z => k6 (decide_eq_true z)) (fun z => k7 (decide_eq_true z)) (fun z => k8 (decide_eq_true z))] at q
    exact q
theorem r_isF (T : Txt K mg) : ∀ n : Nat, Rdy P w K mg base (4 + 2 * n) "is_formula" ["thing"] (isC n)
  | 0 => rdy (k := 3) T.is_formula_ (sc := sc_is_formula) (fun cs ω Φ ⟨_, _, h, _⟩ => absurd h (Nat.not_lt_zero _)) fun X f cdv A outer s H E hX hr cs ω Φ ⟨_, _, h, _⟩ => absurd h (Nat.not_lt_zero _)
  | n + 1 => r_is_formula T (Nat.le_add_right 4 (2 * n)) (r_isF T n)
end
section
variable {P : Program} {w : World} {K : PySem.W.Frag} {mg : Str → Option Value} {base : Heap}
theorem atI_2 {α : Type} {a b c : α} {r : List α} : atI (a :: b :: c :: r) 2 = some c := atI_nat (j := 2) rfl
theorem atI_3 {α : Type} {a b c d : α} {r : List α} : atI (a :: b :: c :: d :: r) 3 = some d := atI_nat (j := 3) rfl
theorem atI_4 {α : Type} {a b c d e : α} {r : List α} : atI (a :: b :: c :: d :: e :: r) 4 = some e := atI_nat (j := 4) rfl
theorem atI_5 {α : Type} {a b c d e f : α} {r : List α} : atI (a :: b :: c :: d :: e :: f :: r) 5 = some f := atI_nat (j := 5) rfl
def partsC : Con := fun cs ω Φ => ∃ d, cs = [.dat d] ∧ isFd d = true ∧ ∀ p, Φ ((p, lstP (kidsD d)) :: ω) (.raw (.ref p))
theorem r_parts (T : Txt K mg) : Rdy P w K mg base 1 "parts" ["formula"] partsC := by
  refine rdy T.parts_ sc_parts (fun cs ω Φ ⟨_, e, _⟩ => by rw [e]; rfl) fun X f cdv A outer s H E hX hr cs ω Φ ⟨d, e, hF, q⟩ => ?_
  subst hX; subst e
  obtain ⟨xs, ds, rfl, hI, _⟩ := isF_form hF
  obtain ⟨wd, rest, rfl, _⟩ := inn_word hI
  rw [kids_tup hI] at q
  refine b_cons ?_
  refine s_set 1 sc_parts.nd ?_
  refine n_ixt (fun _ _ => rfl) ?_
  refine n_var 0 ?_
  refine n_int ?_
  refine ⟨_, _, _, rfl, rfl, atI_0, ?_⟩
  refine b_cons ?_
  refine s_if ?_
  refine nt_in (by rfl) ?_
  refine n_var 1 ?_
  refine n_const T.c_GATHERING ?_
  refine ⟨_, _, rfl, .inl rfl, rfl, rfl, ?_⟩
  rw [inD_G3]
  refine ite2 (fun h => ?_) (fun k1 => ?_)
  · have e := inn_gath hI h
    subst e
    refine b_one ?_
    refine s_ret ?_
    refine n_listOfO T.z_list ?_
    refine n_ixt (fun _ _ => rfl) ?_
    refine n_var 0 ?_
    refine n_int ?_
    exact ⟨_, _, _, rfl, rfl, atI_1, ds, .inr rfl, fun p => q p⟩
  refine b_nil ?_
  refine b_cons ?_
  refine s_if ?_
  refine nt_eqS ?_
  refine n_var 1 ?_
  refine n_str ?_
  refine ⟨_, _, rfl, rfl, ?_⟩
  refine ite2 (fun h => ?_) (fun k2 => ?_)
  · have h := of_decide_eq_true h
    subst h
    obtain ⟨a, b, rfl, rfl, _⟩ := inn_times hI
    refine b_one ?_
    refine s_ret ?_
    refine n_lstOU ?_
    refine na_cons ?_
    refine n_ixt (fun _ _ => rfl) ?_
    refine n_var 0 ?_
    refine n_int ?_
    exact ⟨_, _, _, rfl, rfl, atI_2, na_nil ⟨_, rfl, rfl, fun p => q p⟩⟩
  refine b_nil ?_
  refine b_cons ?_
  refine s_if ?_
  refine nt_eqS ?_
  refine n_var 1 ?_
  refine n_str ?_
  refine ⟨_, _, rfl, rfl, ?_⟩
  refine ite2 (fun h => ?_) (fun k3 => ?_)
  · have h := of_decide_eq_true h
    subst h
    obtain ⟨a, b, rfl, rfl⟩ := inn_over hI
    refine b_one ?_
    refine s_ret ?_
    refine n_lstOU ?_
    refine na_cons ?_
    refine n_ixt (fun _ _ => rfl) ?_
    refine n_var 0 ?_
    refine n_int ?_
    refine ⟨_, _, _, rfl, rfl, atI_1, ?_⟩
    refine na_cons ?_
    refine n_ixt (fun _ _ => rfl) ?_
    refine n_var 0 ?_
    refine n_int ?_
    exact ⟨_, _, _, rfl, rfl, atI_2, na_nil ⟨_, rfl, rfl, fun p => q p⟩⟩
  refine b_nil ?_
  refine b_cons ?_
  refine s_if ?_
  refine nt_eqS ?_
  refine n_var 1 ?_
  refine n_str ?_
  refine ⟨_, _, rfl, rfl, ?_⟩
  refine ite2 (fun h => ?_) (fun k4 => ?_)
  · have h := of_decide_eq_true h
    subst h
    obtain ⟨a, sg, b, c, d, rfl, rfl, _⟩ := inn_case hI
    refine b_one ?_
    refine s_ret ?_
    refine n_lstOU ?_
    refine na_cons ?_
    refine n_ixt (fun _ _ => rfl) ?_
    refine n_var 0 ?_
    refine n_int ?_
    refine ⟨_, _, _, rfl, rfl, atI_1, ?_⟩
    refine na_cons ?_
    refine n_ixt (fun _ _ => rfl) ?_
    refine n_var 0 ?_
    refine n_int ?_
    refine ⟨_, _, _, rfl, rfl, atI_3, ?_⟩
    refine na_cons ?_
    refine n_ixt (fun _ _ => rfl) ?_
    refine n_var 0 ?_
    refine n_int ?_
    refine ⟨_, _, _, rfl, rfl, atI_4, ?_⟩
    refine na_cons ?_
    refine n_ixt (fun _ _ => rfl) ?_
    refine n_var 0 ?_
    refine n_int ?_
    exact ⟨_, _, _, rfl, rfl, atI_5, na_nil ⟨_, rfl, rfl, fun p => q p⟩⟩
  refine b_nil ?_
  have e := inn_leaf hI k1 (fun z => k2 (decide_eq_true z)) (fun z => k3 (decide_eq_true z)) (fun z => k4 (decide_eq_true z))
  subst e
  refine b_one ?_
  refine s_ret ?_
  refine n_lstOU ?_
  refine na_nil ?_
  exact ⟨_, rfl, rfl, fun p => q p⟩
theorem lenA_take (ds : List PyData) (i : Nat) : lenA (ds.take i) ≤ lenA ds := by
  have e := lenA_append (ds.take i) (ds.drop i)
  rw [List.take_append_drop] at e
  omega
theorem flat_take {f : PyData → List PyData} {ds : List PyData} {i : Nat} {d0 : PyData} (hd : ds[i]? = some d0) : ((ds.take (i + 1)).map f).flatten = ((ds.take i).map f).flatten ++ f d0 := by
  rw [List.take_add_one, hd]
  simp
def readsC (n : Nat) : Con := fun cs ω Φ => ∃ d, cs = [.dat d] ∧ d.depth < n ∧ FOk d ∧ ∀ p, Φ ((p, lstP (readsD d)) :: ω) (.raw (.ref p))
theorem r_reads_step (T : Txt K mg) {n lv : Nat} (h1 : 1 ≤ lv) (R : Rdy P w K mg base lv "reads" ["formula"] (readsC n)) : Rdy P w K mg base (lv + 1) "reads" ["formula"] (readsC (n + 1)) := by
  refine rdy T.reads_ sc_reads (fun cs ω Φ ⟨_, e, _⟩ => by rw [e]; rfl) fun X f cdv A outer s H E hX hr cs ω Φ ⟨d, e, hn, hF, q⟩ => ?_
  subst hX; subst e
  obtain ⟨xs, ds, rfl, hI, hkk, hk, hz⟩ := hF.form
  obtain ⟨wd, rest, rfl, _⟩ := inn_word hI
  have hsz := hF.sz
  rw [reads_form hI] at q
  refine b_cons ?_
  refine s_if ?_
  refine nt_eqS ?_
  refine n_ixt (fun _ _ => rfl) ?_
  refine n_var 0 ?_
  refine n_int ?_
  refine ⟨_, _, _, rfl, rfl, atI_0, ?_⟩
  refine n_str ⟨_, _, rfl, rfl, ?_⟩
  refine ite2 (fun h => ?_) (fun k1 => ?_)
  · rw [if_pos (of_decide_eq_true h)] at q
    refine b_one ?_
    refine s_ret ?_
    refine n_lstOU ?_
    refine na_cons ?_
    refine n_var 0 ?_
    refine na_nil ?_
    exact ⟨_, rfl, rfl, fun p => q p⟩
  rw [if_neg (fun z => k1 (decide_eq_true z))] at q
  refine b_nil ?_
  refine b_cons ?_
  refine s_if ?_
  refine nt_in (by rfl) ?_
  refine n_ixt (fun _ _ => rfl) ?_
  refine n_var 0 ?_
  refine n_int ?_
  refine ⟨_, _, _, rfl, rfl, atI_0, ?_⟩
  refine n_const T.c_RANGING ⟨_, _, rfl, .inl rfl, rfl, rfl, ?_⟩
  rw [inD_R4]
  refine ite2 (fun h => ?_) (fun k2 => ?_)
  · rw [if_pos h] at q
    obtain ⟨r, rfl, rfl, _⟩ := inn_rang hI h
    refine b_one ?_
    refine s_ret ?_
    refine n_lstOU ?_
    refine na_cons ?_
    refine n_ixt (fun _ _ => rfl) ?_
    refine n_var 0 ?_
    refine n_int ?_
    exact ⟨_, _, _, rfl, rfl, atI_1, na_nil ⟨_, rfl, rfl, fun p => q p⟩⟩
  rw [if_neg k2] at q
  refine b_nil ?_
  refine b_one ?_
  refine s_ret ?_
  refine n_lc2 1 2 (by decide) (show 2 < 3 by decide) rfl sc_reads.nd (blkOk_by (N := N_reads) (sc := defScope s_reads) (by decide +kernel)) ?_ (fun s' H' C cl fp ω' δ' c hd => n_var 2 ⟨rfl, rfl⟩ hd) (fun s' H' C cl fp => pg_name (i := 1) sc_reads.nd rfl (Or.inl rfl)) (fun s' H' C cl fp => pg_name (i := 2) sc_reads.nd rfl (Or.inl rfl))
  refine n_shareE ?_
  refine n_fn (r_parts T) hr (hjk := h1) ?_
  refine na_cons ?_
  refine n_var 0 ?_
  refine na_nil ?_
  refine ⟨_, rfl, hF.f, fun p => ⟨p, _, _, rfl, rfl, _, rfl, fun i ω2 acc => ω2 = ω ∧ acc = ((ds.take i).map readsD).flatten, ⟨rfl, rfl⟩, ?_, ?_⟩⟩
  · rw [hkk]
    rintro i ω2 acc D d0 hd ⟨rfl, rfl⟩ s' H' C cl fp
    have hm := List.mem_of_getElem? hd
    refine n_shareE ?_
    refine n_fn R hr (hjk := Nat.le_refl _) ?_
    refine na_cons ?_
    refine n_var 1 ?_
    refine na_nil ?_
    refine ⟨d0, rfl, by have := (hk d0 hm).2; omega, (hk d0 hm).1, fun p2 => ⟨p2, _, _, rfl, rfl, _, _, rfl, rfl, ?_, rfl, (flat_take hd).symm⟩⟩
    rw [← List.length_append, ← flat_take hd]
    have g1 := flat_len (f := readsD) (ds := ds.take (i + 1)) fun x hx => (reads_size (hk x (List.mem_of_mem_take hx)).1.f).2
    have g2 := lenA_take ds (i + 1)
    omega
  · rw [hkk]
    rintro ω2 acc ⟨rfl, rfl⟩ D
    rw [List.take_length]
    exact q D
theorem r_reads (T : Txt K mg) : ∀ n : Nat, Rdy P w K mg base (1 + n) "reads" ["formula"] (readsC n)
  | 0 => rdy (k := 0) T.reads_ (sc := sc_reads) (fun cs ω Φ ⟨_, _, h, _⟩ => absurd h (Nat.not_lt_zero _)) fun X f cdv A outer s H E hX hr cs ω Φ ⟨_, _, h, _⟩ => absurd h (Nat.not_lt_zero _)
  | n + 1 => r_reads_step T (Nat.le_add_right 1 n) (r_reads T n)
/-! ## depth -/
theorem deep_nn (d : PyData) : 0 ≤ deepD d := by
  rw [deep_eq]
  unfold deepF
  cases (kidsD d).map deepD with
  | nil => exact Int.le_refl 0
  | cons a r =>
    have go : ∀ r : List Int, 0 ≤ r.foldr (fun r m => max (1 + r) m) 0 := by
      intro r
      induction r with
      | nil => exact Int.le_refl 0
      | cons a r ih =>
        simp only [List.foldr_cons]
        omega
    exact go (a :: r)
theorem fold_max : ∀ (r : List Int) {m : Int}, (∀ y ∈ r, 1 + y ≤ m) → 0 ≤ m → r.foldr (fun r m => max (1 + r) m) 0 ≤ m
  | [], m, _, h => h
  | a :: r, m, h, h0 => by
    have h1 := h a List.mem_cons_self
    have h2 := fold_max r (m := m) (fun y hy => h y (List.mem_cons_of_mem _ hy)) h0
    simp only [List.foldr_cons]
    omega
theorem fold_ge : ∀ (r : List Int), (0 ≤ r.foldr (fun r m => max (1 + r) m) 0) ∧ ∀ y ∈ r, 1 + y ≤ r.foldr (fun r m => max (1 + r) m) 0
  | [] => ⟨Int.le_refl 0, fun y hy => by cases hy⟩
  | a :: r => by
    obtain ⟨h1, h2⟩ := fold_ge r
    simp only [List.foldr_cons]
    refine ⟨by omega, fun y hy => ?_⟩
    rcases List.mem_cons.mp hy with rfl | hy
    · omega
    · have := h2 y hy; omega
def fC (n : Nat) (F : PyData → PyData) : Con := fun cs ω Φ => ∃ d, cs = [.dat d] ∧ d.depth < n ∧ FOk d ∧ Φ ω (.dat (F d))
theorem map_take {α : Type} {f : PyData → α} {ds : List PyData} {i : Nat} {d0 : PyData} (hd : ds[i]? = some d0) : (ds.take (i + 1)).map f = (ds.take i).map f ++ [f d0] := by
  rw [List.take_add_one, hd]
  simp
theorem kids_len {xs ds : List PyData} (h : FOk (.tuple xs)) (hI : Inn xs ds) : ds.length < 100000 := by
  have h1 := inn_size hI
  have h2 := h.sz
  have go : ∀ ds : List PyData, 2 * ds.length ≤ lenA ds := by
    intro ds
    induction ds with
    | nil => exact Nat.le_refl _
    | cons a r ih =>
      show 2 * (r.length + 1) ≤ lenB a + 2 + lenA r
      omega
  have g3 : ∀ ds : List PyData, (∀ x ∈ ds, 38 ≤ lenB x) → 40 * ds.length ≤ lenA ds := by
    intro ds
    induction ds with
    | nil => intro _; exact Nat.le_refl _
    | cons a r ih =>
      intro hh
      have := hh a List.mem_cons_self
      have := ih fun x hx => hh x (List.mem_cons_of_mem _ hx)
      show 40 * (r.length + 1) ≤ lenB a + 2 + lenA r
      omega
  have g4 := g3 ds fun x hx => by
    obtain ⟨xs2, ds2, e, _, hkk, hk, _⟩ := h.form
    cases e
    have e1 := kids_tup hI
    rw [hkk] at e1
    subst e1
    obtain ⟨_, _, _, _, _, _, hz⟩ := (hk x hx).1.form
    omega
  omega
/-! ## input, linear -/
theorem r_inp_step (T : Txt K mg) {n lv : Nat} (h1 : 1 ≤ lv) (R : Rdy P w K mg base lv "has_input" ["formula"] (fC n fun d => .bool (inpD d))) : Rdy P w K mg base (lv + 1) "has_input" ["formula"] (fC (n + 1) fun d => .bool (inpD d)) := by
  refine rdy T.has_input_ sc_has_input (fun cs ω Φ ⟨_, e, _⟩ => by rw [e]; rfl) fun X f cdv A outer s H E hX hr cs ω Φ ⟨d, e, hn, hF, q⟩ => ?_
  subst hX; subst e
  try dsimp only at q
  obtain ⟨xs, ds, rfl, hI, hkk, hk, hz⟩ := hF.form
  obtain ⟨wd, rest, rfl, _⟩ := inn_word hI
  have hl := kids_len hF hI
  rw [inp_eq, hkk] at q
  refine b_one ?_
  refine s_ret ?_
  refine n_or ?_
  refine n_eqS ?_
  refine n_ixt (fun _ _ => rfl) ?_
  refine n_var 0 ?_
  refine n_int ?_
  refine ⟨_, _, _, rfl, rfl, atI_0, ?_⟩
  refine n_str ⟨_, _, rfl, rfl, _, rfl, ?_⟩
  have e : inpF (.tuple (.str wd :: rest)) (ds.map inpD) = (decide (wd = "input") || (ds.map inpD).any id) := rfl
  rw [e] at q
  refine ite2 (fun h => ?_) (fun h => ?_)
  · rw [h] at q
    exact q
  rw [Bool.eq_false_iff.mpr h, Bool.false_or] at q
  refine n_one ?_
  refine n_any rfl T.z_any ?_
  refine n_lcL 1 rfl sc_has_input.nd (blkOk_by (N := N_has_input) (sc := defScope s_has_input) (by decide +kernel)) ?_ (fun s' H' C cl fp => pg_name (i := 1) sc_has_input.nd rfl (Or.inl rfl))
  refine n_shareE ?_
  refine n_fn (r_parts T) hr (hjk := h1) ?_
  refine na_cons ?_
  refine n_var 0 ?_
  refine na_nil ?_
  refine ⟨_, rfl, hF.f, fun p => ⟨p, _, _, rfl, rfl, _, rfl, fun i ω2 acc => ω2 = ω ∧ acc = ((ds.take i).map inpD).map .bool, ⟨rfl, rfl⟩, ?_, ?_⟩⟩
  · rw [hkk]
    rintro i ω2 acc D d0 hd ⟨rfl, rfl⟩ s' H' C cl fp
    have hm := List.mem_of_getElem? hd
    refine n_fn R hr (hjk := Nat.le_refl _) ?_
    refine na_cons ?_
    refine n_var 1 ?_
    refine na_nil ?_
    refine ⟨d0, rfl, by have := (hk d0 hm).2; omega, (hk d0 hm).1, _, rfl, ?_, _, rfl, rfl, ?_⟩
    · rw [List.length_map, List.length_map, List.length_take]
      omega
    · rw [map_take hd, List.map_append]
      rfl
  · rw [hkk]
    rintro ω2 acc ⟨rfl, rfl⟩
    rw [List.take_length]
    exact ⟨_, rfl, q⟩
theorem r_inp (T : Txt K mg) : ∀ n : Nat, Rdy P w K mg base (1 + n) "has_input" ["formula"] (fC n fun d => .bool (inpD d))
  | 0 => rdy (k := 0) T.has_input_ (sc := sc_has_input) (fun cs ω Φ ⟨_, _, h, _⟩ => absurd h (Nat.not_lt_zero _)) fun X f cdv A outer s H E hX hr cs ω Φ ⟨_, _, h, _⟩ => absurd h (Nat.not_lt_zero _)
  | n + 1 => r_inp_step T (Nat.le_add_right 1 n) (r_inp T n)
def linD (d : PyData) : Bool := decide (wordD d = "input") || plD d
end
section
variable {P : Program} {w : World} {K : PySem.W.Frag} {mg : Str → Option Value} {base : Heap}
/-! ## what fits a place -/
abbrev P3 : List Str := ["head", "body", "foot"]
def rowsOf (pl : Str) : List Str := if pl = "head" then ["head"] else if pl = "body" then ["head", "by"] else ["head", "last", "foot"]
def fitR (pl : Str) (r : PyData) : Bool := if wordD r = "name" then wordIn (wordD (itemD r 2)) (rowsOf pl) else (decide (pl = "body") || (decide (pl = "foot") && (isNone (itemD r 2) && isNone (itemD r 3))))
def fitD (pl : Str) (d : PyData) : Bool := if wordD d = "input" then !decide (pl = "foot") else if inpD d = true then false else (readsD d).all (fitR pl)
abbrev tabR : List (Str × List PyData) := [("head", [.str "head"]), ("body", [.str "head", .str "by"]), ("foot", [.str "head", .str "last", .str "foot"])]
theorem rows3 : rowsOf "head" = (["head"] : List Str) ∧ rowsOf "body" = (["head", "by"] : List Str) ∧ rowsOf "foot" = (["head", "last", "foot"] : List Str) := by decide +kernel
theorem p3 {pl : Str} (h : pl ∈ P3) : pl = "head" ∨ pl = "body" ∨ pl = "foot" := by
  simpa only [List.mem_cons, List.not_mem_nil, or_false] using h
theorem tab_mem {pl : Str} (h : pl ∈ P3) : (pl, (rowsOf pl).map PyData.str) ∈ tabR := by
  rcases p3 h with rfl | rfl | rfl
  · rw [rows3.1]; exact List.mem_cons_self
  · rw [rows3.2.1]; exact List.mem_cons_of_mem _ List.mem_cons_self
  · rw [rows3.2.2]; exact List.mem_cons_of_mem _ (List.mem_cons_of_mem _ List.mem_cons_self)
theorem flat_strs : ∀ (ws : List Str), (ws.map PyData.str).all flatD = true
  | [] => rfl
  | _ :: r => by
    show (true && (r.map PyData.str).all flatD) = true
    rw [flat_strs r]; rfl
theorem row_word {b : PyData} (h : rowPartD b = true) : ∃ s rr, b = .tuple (.str s :: rr) := by
  rcases row_form h with rfl | rfl | ⟨i, rfl⟩ | ⟨i, _, rfl⟩ <;> exact ⟨_, _, rfl⟩
theorem nrn : ¬ ("rows" : Str) = "name" := by decide +kernel
theorem nnr : ¬ ("name" : Str) = "rows" := by decide +kernel
theorem fit_name {pl s : Str} {a : PyData} {rr : List PyData} : fitR pl (.tuple [.str "name", a, .tuple (.str s :: rr)]) = wordIn s (rowsOf pl) := if_pos rfl
theorem fit_range {pl : Str} {a b c : PyData} : fitR pl (.tuple [.str "rows", a, b, c]) = (decide (pl = "body") || (decide (pl = "foot") && (isNone b && isNone c))) := if_neg nrn
def fitRC : Con := fun cs ω Φ => ∃ r pl, cs = [.dat r, .dat (.str pl)] ∧ (isNameD r = true ∨ isRangeD r = true) ∧ pl ∈ P3 ∧ Φ ω (.dat (.bool (fitR pl r)))
theorem r_read_fits (T : Txt K mg) (hD : KdC K w mg "ROWS_THAT_FIT" tabR) : Rdy P w K mg base 1 "_read_fits" ["read", "place"] fitRC := by
  refine rdy T._read_fits_ sc__read_fits (fun cs ω Φ ⟨_, _, e, _⟩ => by rw [e]; rfl) fun X f cdv A outer s H E hX hr cs ω Φ ⟨r, pl, e, hR, hp, q⟩ => ?_
  subst hX; subst e
  refine b_cons ?_
  refine s_if ?_
  refine nt_eqS ?_
  refine n_ixt (fun _ _ => rfl) ?_
  refine n_var 0 ?_
  refine n_int ?_
  rcases hR with hR | hR
  · obtain ⟨a, b, rfl, h1, h2⟩ := name_form hR
    obtain ⟨s, rr, rfl⟩ := row_word h2
    rw [fit_name] at q
    refine ⟨_, _, _, rfl, rfl, atI_0, ?_⟩
    refine n_str ⟨_, _, rfl, rfl, ?_⟩
    refine ite2 (fun _ => ?_) (fun h => absurd (decide_eq_true rfl) h)
    refine b_one ?_
    refine s_ret ?_
    refine n_in (by rfl) ?_
    refine n_ixt (fun _ _ => rfl) ?_
    refine n_ixt (fun _ _ => rfl) ?_
    refine n_var 0 ?_
    refine n_int ?_
    refine ⟨_, _, _, rfl, rfl, atI_2, ?_⟩
    refine n_int ⟨_, _, _, rfl, rfl, atI_0, ?_⟩
    refine n_kdix hD (fun _ _ => rfl) ?_
    refine n_var 1 ?_
    refine ⟨pl, _, rfl, tab_mem hp, _, _, rfl, .inl rfl, rfl, flat_strs _, ?_⟩
    rw [inD_words (rowsOf pl) rfl]
    exact q
  · obtain ⟨a, b, c, rfl, h1, h2, h3⟩ := range_form hR
    rw [fit_range] at q
    refine ⟨_, _, _, rfl, rfl, atI_0, ?_⟩
    refine n_str ⟨_, _, rfl, rfl, ?_⟩
    refine ite2 (fun h => absurd (of_decide_eq_true h) nrn) (fun _ => ?_)
    refine b_nil ?_
    refine b_one ?_
    refine s_ret ?_
    refine n_or ?_
    refine n_eqS ?_
    refine n_var 1 ?_
    refine n_str ?_
    refine ⟨_, _, rfl, rfl, _, rfl, ?_⟩
    refine ite2 (fun h => ?_) (fun h => ?_)
    · rw [h] at q; exact q
    rw [Bool.eq_false_iff.mpr h, Bool.false_or] at q
    refine n_one ?_
    refine n_and ?_
    refine n_eqS ?_
    refine n_var 1 ?_
    refine n_str ?_
    refine ⟨_, _, rfl, rfl, _, rfl, ?_⟩
    refine ite2 (fun h => ?_) (fun h => ?_)
    rotate_left
    · rw [Bool.eq_false_iff.mpr h] at q; exact q
    rw [h, Bool.true_and] at q
    refine n_and ?_
    refine n_isN ?_
    refine n_ixt (fun _ _ => rfl) ?_
    refine n_var 0 ?_
    refine n_int ?_
    refine ⟨_, _, _, rfl, rfl, atI_2, _, rfl, _, rfl, ?_⟩
    refine ite2 (fun h => ?_) (fun h => ?_)
    rotate_left
    · rw [Bool.eq_false_iff.mpr h] at q; exact q
    rw [h, Bool.true_and] at q
    refine n_one ?_
    refine n_isN ?_
    refine n_ixt (fun _ _ => rfl) ?_
    refine n_var 0 ?_
    refine n_int ?_
    exact ⟨_, _, _, rfl, rfl, atI_3, _, rfl, q⟩
theorem fitD_eq (pl wd : Str) (rest : List PyData) : fitD pl (.tuple (.str wd :: rest)) = if wd = "input" then !decide (pl = "foot") else if inpD (.tuple (.str wd :: rest)) = true then false else (readsD (.tuple (.str wd :: rest))).all (fitR pl) := rfl
def fitsC (n : Nat) : Con := fun cs ω Φ => ∃ d pl, cs = [.dat d, .dat (.str pl)] ∧ d.depth < n ∧ FOk d ∧ pl ∈ P3 ∧ Φ ω (.dat (.bool (fitD pl d)))
theorem reads_count {d : PyData} (h : FOk d) : (readsD d).length < 100000 := by
  have h1 := (reads_size h.f).2
  have h2 := h.sz
  omega
theorem r_fits (T : Txt K mg) (hD : KdC K w mg "ROWS_THAT_FIT" tabR) (n : Nat) : Rdy P w K mg base (2 + n) "fits" ["formula", "place"] (fitsC n) := by
  rw [show 2 + n = (1 + n) + 1 from by omega]
  refine rdy T.fits_ sc_fits (fun cs ω Φ ⟨_, _, e, _⟩ => by rw [e]; rfl) fun X f cdv A outer s H E hX hr cs ω Φ ⟨d, pl, e, hn, hF, hp, q⟩ => ?_
  subst hX; subst e
  obtain ⟨xs, ds, rfl, hI, hkk, hk, hz⟩ := hF.form
  obtain ⟨wd, rest, rfl, _⟩ := inn_word hI
  refine b_cons ?_
  refine s_if ?_
  refine nt_eqS ?_
  refine n_ixt (fun _ _ => rfl) ?_
  refine n_var 0 ?_
  refine n_int ?_
  refine ⟨_, _, _, rfl, rfl, atI_0, ?_⟩
  refine n_str ⟨_, _, rfl, rfl, ?_⟩
  rw [fitD_eq] at q
  refine ite2 (fun h => ?_) (fun h => ?_)
  · rw [if_pos (of_decide_eq_true h)] at q
    refine b_one ?_
    refine s_ret ?_
    refine n_neS ?_
    refine n_var 1 ?_
    refine n_str ?_
    exact ⟨_, _, rfl, rfl, q⟩
  rw [if_neg (fun z => h (decide_eq_true z))] at q
  refine b_nil ?_
  refine b_cons ?_
  refine s_if ?_
  refine nt_val ?_
  refine n_fn (r_inp T n) hr (hjk := Nat.le_refl _) ?_
  refine na_cons ?_
  refine n_var 0 ?_
  refine na_nil ?_
  refine ⟨_, rfl, hn, hF, _, rfl, ?_⟩
  refine ite2 (fun h => ?_) (fun h => ?_)
  · rw [if_pos h] at q
    refine b_one ?_
    refine s_ret ?_
    refine n_bl ?_
    exact q
  rw [if_neg h] at q
  refine b_nil ?_
  refine b_one ?_
  refine s_ret ?_
  refine n_all rfl T.z_all ?_
  refine n_lcL 2 rfl sc_fits.nd (blkOk_by (N := N_fits) (sc := defScope s_fits) (by decide +kernel)) ?_ (fun s' H' C cl fp => pg_name (i := 2) sc_fits.nd rfl (Or.inl rfl))
  refine n_shareE ?_
  refine n_fn (r_reads T n) hr (hjk := Nat.le_refl _) ?_
  refine na_cons ?_
  refine n_var 0 ?_
  refine na_nil ?_
  have hl := reads_count hF
  refine ⟨_, rfl, hn, hF, fun p => ⟨p, _, _, rfl, rfl, _, rfl, fun i ω2 acc => ω2 = ω ∧ acc = (((readsD (.tuple (.str wd :: rest))).take i).map (fitR pl)).map .bool, ⟨rfl, rfl⟩, ?_, ?_⟩⟩
  · rintro i ω2 acc D d0 hd ⟨rfl, rfl⟩ s' H' C cl fp
    have hm := List.mem_of_getElem? hd
    refine n_fn (r_read_fits T hD) hr (hjk := Nat.le_add_right 1 n) ?_
    refine na_cons ?_
    refine n_var 2 ?_
    refine na_cons ?_
    refine n_var 1 ?_
    refine na_nil ?_
    refine ⟨d0, pl, rfl, (reads_ok n _ hn hF d0 hm).2, hp, _, rfl, ?_, _, rfl, rfl, ?_⟩
    · rw [List.length_map, List.length_map, List.length_take]
      omega
    · rw [map_take hd, List.map_append]
      rfl
  · rintro ω2 acc ⟨rfl, rfl⟩
    rw [List.take_length]
    refine ⟨_, rfl, ?_⟩
    rw [List.all_map]
    exact q
end
section
variable {P : Program} {w : World} {K : PySem.W.Frag} {mg : Str → Option Value} {base : Heap}
theorem abs_le13 (i : Int) : decide ((if i < 0 then -i else i) ≤ (10 : Int) ^ (12 : Int).toNat) = isNumD (.int i) := by
  show _ = (decide (-1000000000000 ≤ i) && decide (i ≤ 1000000000000))
  have e : (10 : Int) ^ (12 : Int).toNat = 1000000000000 := by decide
  rw [e, Bool.eq_iff_iff]
  simp only [decide_eq_true_eq, Bool.and_eq_true]
  split <;> omega
theorem beq_m {x : PyData} {r : List PyData} {k : Nat} : ((((x :: r : List PyData).length : Nat) : Int) == ((k + 1 : Nat) : Int)) = decide (r.length = k) := by
  rw [Bool.eq_iff_iff, beq_iff_eq, decide_eq_true_eq]
  show ((r.length + 1 : Nat) : Int) = _ ↔ _
  omega
def resD : Option (List PyData) → PyData
  | some ds => .list ds
  | none => .none
def innC : Con := fun cs ω Φ => ∃ (wd : Str) (r : List PyData), cs = [.dat (.tuple (.str wd :: r))] ∧ Φ ω (.dat (resD (innerD (.str wd :: r))))
theorem r_law_inner (T : Txt K mg) : Rdy P w K mg base 4 "_law_inner" ["thing"] innC := by
  refine rdy T._law_inner_ sc__law_inner (fun cs ω Φ ⟨_, _, e, _⟩ => by rw [e]; rfl) fun X f cdv A outer s H E hX hr cs ω Φ ⟨wd, r, e, q⟩ => ?_
  have hu := room_u64 hr
  subst hX; subst e
  refine b_cons ?_
  refine s_par 1 2 rfl sc__law_inner.nd ?_
  refine na_cons ?_
  refine n_ixt (fun _ _ => rfl) ?_
  refine n_var 0 ?_
  refine n_int ?_
  refine ⟨_, _, _, rfl, rfl, atI_0, ?_⟩
  refine na_cons ?_
  refine n_len T.z_len ?_
  refine n_var 0 ?_
  refine ⟨_, _, rfl, rfl, na_nil ⟨_, _, rfl, ?_⟩⟩
  -- sum, most, least
  refine b_cons ?_
  refine s_if ?_
  refine nt_in (by rfl) ?_
  refine n_var 1 ?_
  repeat walk_at "dx"
  refine ⟨_, _, rfl, .inl rfl, rfl, rfl, ?_⟩
  rw [inD_G3]
  refine ite2 (fun hw => ?_) (fun k1 => ?_)
  · refine b_one ?_
    refine s_ret ?_
    refine n_ifx (ΦT := fun _ _ => True) ?_
    refine nt_and ?_
    refine nt_eq hu ?_
    refine n_var 2 ?_
    refine n_int ?_
    refine ⟨_, _, rfl, rfl, rfl, rfl, ?_⟩
    rw [eqv_ints, show ((2 : Int)) = ((1 + 1 : Nat) : Int) from rfl, beq_m]
    refine ite2 (fun h => ?_) (fun h => ?_)
    · obtain ⟨a, rfl⟩ := len1 (of_decide_eq_true h)
      refine nt_val ?_
      refine n_isi .tuple T.z_isinstance T.z_tuple ?_
      refine n_ixt (fun _ _ => rfl) ?_
      refine n_var 0 ?_
      refine n_int ?_
      refine ⟨_, _, _, rfl, rfl, atI_1, _, rfl, _, rfl, ?_⟩
      refine ite2 (fun h => ?_) (fun h => ?_)
      · obtain ⟨ds, rfl⟩ := isT_tup h
        rw [inner_gath _ (wordIn_mem hw)] at q
        refine n_listOf T.z_list ?_
        refine n_ixt (fun _ _ => rfl) ?_
        refine n_var 0 ?_
        refine n_int ?_
        exact ⟨_, _, _, rfl, rfl, atI_1, ds, .inr rfl, q⟩
      · have e : innerD [.str wd, a] = none := by
          rw [inner_gath _ (wordIn_mem hw)]
          split
          · rename_i z; cases z; exact absurd rfl h
          · rfl
        rw [e] at q
        exact n_non q
    · have e : innerD (.str wd :: r) = none := by
        rw [inner_gath _ (wordIn_mem hw)]
        split
        · exact absurd (decide_eq_true rfl) h
        · rfl
      rw [e] at q
      exact n_non q
  refine b_nil ?_
  -- times
  refine b_cons ?_
  refine s_if ?_
  refine nt_eqS ?_
  refine n_var 1 ?_
  refine n_str ?_
  refine ⟨_, _, rfl, rfl, ?_⟩
  refine ite2 (fun h => ?_) (fun k2 => ?_)
  · have h := of_decide_eq_true h
    subst h
    refine b_one ?_
    refine s_ret ?_
    refine n_ifx (ΦT := fun _ _ => True) ?_
    refine nt_w ?_
    refine nw_and ?_
    refine nt_eq hu ?_
    refine n_var 2 ?_
    refine n_int ?_
    refine ⟨_, _, rfl, rfl, rfl, rfl, ?_⟩
    rw [eqv_ints, show ((3 : Int)) = ((2 + 1 : Nat) : Int) from rfl, beq_m]
    refine ite2 (fun h => ?_) (fun h => ?_)
    · obtain ⟨a, b, rfl⟩ := len2 (of_decide_eq_true h)
      rw [inner_times] at q
      refine nw_and ?_
      refine nt_val ?_
      refine n_fn (r_is_whole T) hr ?_
      refine na_cons ?_
      refine n_ixt (fun _ _ => rfl) ?_
      refine n_var 0 ?_
      refine n_int ?_
      refine ⟨_, _, _, rfl, rfl, atI_1, na_nil ⟨_, rfl, _, rfl, ?_⟩⟩
      refine ite2 (fun h => ?_) (fun h => ?_)
      · obtain ⟨i, rfl⟩ := int_of_isInt h
        refine nw_and1 ?_
        refine nt_le ?_
        refine n_abs T.z_abs ?_
        refine n_ixt (fun _ _ => rfl) ?_
        refine n_var 0 ?_
        refine n_int ?_
        refine ⟨_, _, _, rfl, rfl, atI_1, _, rfl, ?_⟩
        refine n_pow ?_
        refine n_int ?_
        refine n_int ?_
        refine ⟨_, _, rfl, rfl, ⟨by decide, by decide, by decide⟩, ?_⟩
        refine ⟨_, _, rfl, rfl, ?_⟩
        dsimp only
        rw [abs_le13]
        refine ite2 (fun h => ?_) (fun h => ?_)
        · simp only [h, if_true] at q
          refine n_lstU ?_
          refine na_cons ?_
          refine n_ixt (fun _ _ => rfl) ?_
          refine n_var 0 ?_
          refine n_int ?_
          exact ⟨_, _, _, rfl, rfl, atI_2, na_nil ⟨_, rfl, rfl, q⟩⟩
        · simp only [h, Bool.false_eq_true, if_false] at q
          exact n_non q
      · have hn : isNumD a = false := by cases a <;> first | rfl | exact absurd rfl h
        simp only [hn, Bool.false_eq_true, if_false] at q
        exact n_non q
    · have e : innerD (.str "times" :: r) = none := by
        rw [inner_times]
        split
        · exact absurd (decide_eq_true rfl) h
        · rfl
      rw [e] at q
      exact n_non q
  refine b_nil ?_
  -- over
  refine b_cons ?_
  refine s_if ?_
  refine nt_eqS ?_
  refine n_var 1 ?_
  refine n_str ?_
  refine ⟨_, _, rfl, rfl, ?_⟩
  refine ite2 (fun h => ?_) (fun k3 => ?_)
  · have h := of_decide_eq_true h
    subst h
    refine b_one ?_
    refine s_ret ?_
    refine n_ifx (ΦT := fun _ _ => True) ?_
    refine nt_eq hu ?_
    refine n_var 2 ?_
    refine n_int ?_
    refine ⟨_, _, rfl, rfl, rfl, rfl, ?_⟩
    rw [eqv_ints, show ((3 : Int)) = ((2 + 1 : Nat) : Int) from rfl, beq_m]
    refine ite2 (fun h => ?_) (fun h => ?_)
    · obtain ⟨a, b, rfl⟩ := len2 (of_decide_eq_true h)
      rw [inner_over] at q
      refine n_listOf T.z_list ?_
      refine n_slT ?_
      refine n_var 0 ?_
      show N _ _ _ _ _
      refine n_int ⟨1, rfl, _, rfl, ?_⟩
      rw [cutr]
      exact ⟨_, .inr rfl, q⟩
    · have e : innerD (.str "over" :: r) = none := by
        rw [inner_over]
        split
        · exact absurd (decide_eq_true rfl) h
        · rfl
      rw [e] at q
      exact n_non q
  refine b_nil ?_
  -- case
  refine b_cons (s_if (NT.imp (Φ := fun ω1 c => ω1 = ω ∧ c = (decide (wd = "case") && (decide (r.length = 5) && isSignD (r.getD 1 .none)))) ?_ ?_))
  · refine nt_w ?_
    refine nw_and ?_
    refine nt_eqS ?_
    refine n_var 1 ?_
    refine n_str ?_
    refine ⟨_, _, rfl, rfl, ?_⟩
    refine ite2 (fun h => ?_) (fun h => ⟨rfl, by rw [Bool.eq_false_iff.mpr h]; rfl⟩)
    rw [h, Bool.true_and]
    refine nw_and ?_
    refine nt_eq hu ?_
    refine n_var 2 ?_
    refine n_int ?_
    refine ⟨_, _, rfl, rfl, rfl, rfl, ?_⟩
    rw [eqv_ints, show ((6 : Int)) = ((5 + 1 : Nat) : Int) from rfl, beq_m]
    refine ite2 (fun h => ?_) (fun h => ⟨rfl, by rw [Bool.eq_false_iff.mpr h]; rfl⟩)
    obtain ⟨a, sg, b, c, d, rfl⟩ := len5 (of_decide_eq_true h)
    rw [h, Bool.true_and]
    show NW _ _ _ _ fun ω1 cc => ω1 = ω ∧ cc = isSignD sg
    refine nw_and ?_
    refine nt_val ?_
    refine n_isi .str T.z_isinstance T.z_str ?_
    refine n_ixt (fun _ _ => rfl) ?_
    refine n_var 0 ?_
    refine n_int ?_
    refine ⟨_, _, _, rfl, rfl, atI_2, _, rfl, _, rfl, ?_⟩
    refine ite2 (fun h => ?_) (fun h => ?_)
    · obtain ⟨y, rfl⟩ : ∃ y, sg = .str y := by cases sg <;> first | exact ⟨_, rfl⟩ | cases h
      refine nw_and1 ?_
      refine nt_in (by rfl) ?_
      refine n_ixt (fun _ _ => rfl) ?_
      refine n_var 0 ?_
      refine n_int ?_
      refine ⟨_, _, _, rfl, rfl, atI_2, ?_⟩
      repeat walk_at "dx"
      refine ⟨_, _, rfl, .inl rfl, rfl, rfl, rfl, ?_⟩
      rw [inD_S6]
      rfl
    · refine ⟨rfl, ?_⟩
      cases sg <;> first | rfl | exact absurd rfl h
  rintro ω1 c ⟨rfl, rfl⟩
  refine ite2 (fun h => ?_) (fun k4 => ?_)
  · rw [Bool.and_eq_true, Bool.and_eq_true, decide_eq_true_eq, decide_eq_true_eq] at h
    obtain ⟨rfl, h5, hs⟩ := h
    obtain ⟨a, sg, b, c, d, rfl⟩ := len5 h5
    have hs : isSignD sg = true := hs
    rw [inner_case] at q
    simp only [hs, if_true] at q
    refine b_one ?_
    refine s_ret ?_
    refine n_lstU ?_
    refine na_cons ?_
    refine n_ixt (fun _ _ => rfl) ?_
    refine n_var 0 ?_
    refine n_int ?_
    refine ⟨_, _, _, rfl, rfl, atI_1, ?_⟩
    refine na_cons ?_
    refine n_ixt (fun _ _ => rfl) ?_
    refine n_var 0 ?_
    refine n_int ?_
    refine ⟨_, _, _, rfl, rfl, atI_3, ?_⟩
    refine na_cons ?_
    refine n_ixt (fun _ _ => rfl) ?_
    refine n_var 0 ?_
    refine n_int ?_
    refine ⟨_, _, _, rfl, rfl, atI_4, ?_⟩
    refine na_cons ?_
    refine n_ixt (fun _ _ => rfl) ?_
    refine n_var 0 ?_
    refine n_int ?_
    exact ⟨_, _, _, rfl, rfl, atI_5, na_nil ⟨_, rfl, rfl, q⟩⟩
  have k4n : wd = "case" → innerD (.str wd :: r) = none := by
    rintro rfl
    rw [inner_case]
    split
    · rename_i a sg b c d _
      split
      · rename_i hs
        exact absurd (show (decide (("case" : Str) = "case") && (decide (([a, sg, b, c, d] : List PyData).length = 5) && isSignD sg)) = true by rw [hs, decide_eq_true rfl]; rfl) k4
      · rfl
    · rfl
  refine b_nil ?_
  -- total, many, top, low
  refine b_cons ?_
  refine s_if ?_
  refine nt_in (by rfl) ?_
  refine n_var 1 ?_
  repeat walk_at "dx"
  refine ⟨_, _, rfl, .inl rfl, rfl, rfl, ?_⟩
  rw [inD_R4]
  refine ite2 (fun hw => ?_) (fun k5 => ?_)
  · refine b_one ?_
    refine s_ret ?_
    refine n_ifx (ΦT := fun _ _ => True) ?_
    refine nt_and ?_
    refine nt_eq hu ?_
    refine n_var 2 ?_
    refine n_int ?_
    refine ⟨_, _, rfl, rfl, rfl, rfl, ?_⟩
    rw [eqv_ints, show ((2 : Int)) = ((1 + 1 : Nat) : Int) from rfl, beq_m]
    refine ite2 (fun h => ?_) (fun h => ?_)
    · obtain ⟨a, rfl⟩ := len1 (of_decide_eq_true h)
      rw [inner_rang _ (wordIn_mem hw)] at q
      refine nt_val ?_
      refine n_fn (r_law_is_range T) hr ?_
      refine na_cons ?_
      refine n_ixt (fun _ _ => rfl) ?_
      refine n_var 0 ?_
      refine n_int ?_
      refine ⟨_, _, _, rfl, rfl, atI_1, na_nil ⟨_, rfl, _, rfl, ?_⟩⟩
      refine ite2 (fun h => ?_) (fun h => ?_)
      · simp only [h, if_true] at q
        refine n_lstU ?_
        refine na_nil ?_
        exact ⟨_, rfl, rfl, q⟩
      · simp only [h, Bool.false_eq_true, if_false] at q
        exact n_non q
    · have e : innerD (.str wd :: r) = none := by
        rw [inner_rang _ (wordIn_mem hw)]
        split
        · exact absurd (decide_eq_true rfl) h
        · rfl
      rw [e] at q
      exact n_non q
  refine b_nil ?_
  -- number
  refine b_cons ?_
  refine s_if ?_
  refine nt_eqS ?_
  refine n_var 1 ?_
  refine n_str ?_
  refine ⟨_, _, rfl, rfl, ?_⟩
  refine ite2 (fun h => ?_) (fun k6 => ?_)
  · have h := of_decide_eq_true h
    subst h
    refine b_one ?_
    refine s_ret ?_
    refine n_ifx (ΦT := fun _ _ => True) ?_
    refine nt_w ?_
    refine nw_and ?_
    refine nt_eq hu ?_
    refine n_var 2 ?_
    refine n_int ?_
    refine ⟨_, _, rfl, rfl, rfl, rfl, ?_⟩
    rw [eqv_ints, show ((2 : Int)) = ((1 + 1 : Nat) : Int) from rfl, beq_m]
    refine ite2 (fun h => ?_) (fun h => ?_)
    · obtain ⟨a, rfl⟩ := len1 (of_decide_eq_true h)
      rw [inner_num] at q
      refine nw_and ?_
      refine nt_val ?_
      refine n_fn (r_is_whole T) hr ?_
      refine na_cons ?_
      refine n_ixt (fun _ _ => rfl) ?_
      refine n_var 0 ?_
      refine n_int ?_
      refine ⟨_, _, _, rfl, rfl, atI_1, na_nil ⟨_, rfl, _, rfl, ?_⟩⟩
      refine ite2 (fun h => ?_) (fun h => ?_)
      · obtain ⟨i, rfl⟩ := int_of_isInt h
        refine nw_and1 ?_
        refine nt_le ?_
        refine n_abs T.z_abs ?_
        refine n_ixt (fun _ _ => rfl) ?_
        refine n_var 0 ?_
        refine n_int ?_
        refine ⟨_, _, _, rfl, rfl, atI_1, _, rfl, ?_⟩
        refine n_pow ?_
        refine n_int ?_
        refine n_int ?_
        refine ⟨_, _, rfl, rfl, ⟨by decide, by decide, by decide⟩, ?_⟩
        refine ⟨_, _, rfl, rfl, ?_⟩
        dsimp only
        rw [abs_le13]
        refine ite2 (fun h => ?_) (fun h => ?_)
        · simp only [h, if_true] at q
          refine n_lstU ?_
          refine na_nil ?_
          exact ⟨_, rfl, rfl, q⟩
        · simp only [h, Bool.false_eq_true, if_false] at q
          exact n_non q
      · have hn : isNumD a = false := by cases a <;> first | rfl | exact absurd rfl h
        simp only [hn, Bool.false_eq_true, if_false] at q
        exact n_non q
    · have e : innerD (.str "number" :: r) = none := by
        rw [inner_num]
        split
        · exact absurd (decide_eq_true rfl) h
        · rfl
      rw [e] at q
      exact n_non q
  refine b_nil ?_
  -- empty, input
  refine b_cons ?_
  refine s_if ?_
  refine nt_in (by rfl) ?_
  refine n_var 1 ?_
  repeat walk_at "dx"
  refine ⟨_, _, rfl, .inl rfl, rfl, rfl, ?_⟩
  rw [inD_E2]
  refine ite2 (fun hw => ?_) (fun k7 => ?_)
  · refine b_one ?_
    refine s_ret ?_
    refine n_ifx (ΦT := fun _ _ => True) ?_
    refine nt_eq hu ?_
    refine n_var 2 ?_
    refine n_int ?_
    refine ⟨_, _, rfl, rfl, rfl, rfl, ?_⟩
    rw [eqv_ints, show ((1 : Int)) = ((0 + 1 : Nat) : Int) from rfl, beq_m]
    rw [inner_bare _ (wordIn_mem hw)] at q
    cases r with
    | nil =>
      refine ite2 (fun _ => ?_) (fun h => absurd (decide_eq_true rfl) h)
      refine n_lstU ?_
      refine na_nil ?_
      exact ⟨_, rfl, rfl, q⟩
    | cons a r =>
      refine ite2 (fun h => absurd (of_decide_eq_true h) (by show ¬ (r.length + 1 = 0); omega)) (fun _ => ?_)
      exact n_non q
  refine b_nil ?_
  refine b_one ?_
  refine s_ret ?_
  refine n_ifx (ΦT := fun _ _ => True) ?_
  refine nt_val ?_
  refine n_fn (r_law_is_name T) hr ?_
  refine na_cons ?_
  refine n_var 0 ?_
  refine na_nil ?_
  refine ⟨_, rfl, _, rfl, ?_⟩
  refine ite2 (fun h => ?_) (fun h => ?_)
  · obtain ⟨a, b, e, _⟩ := name_form h
    cases e
    rw [inner_name, if_pos h] at q
    refine n_lstU ?_
    refine na_nil ?_
    exact ⟨_, rfl, rfl, q⟩
  · have e : innerD (.str wd :: r) = none := by
      by_cases h1 : wd = "name"
      · subst h1
        rw [inner_name, if_neg h]
      by_cases h4 : wd = "case"
      · exact k4n h4
      · exact inner_none h1 k7 (fun z => k6 (decide_eq_true z)) k5 k1 (fun z => k2 (decide_eq_true z)) (fun z => k3 (decide_eq_true z)) h4
    rw [e] at q
    exact n_non q
end
section
variable {P : Program} {w : World} {K : PySem.W.Frag} {mg : Str → Option Value} {base : Heap}
theorem len_lenA : ∀ ds : List PyData, 2 * ds.length ≤ lenA ds
  | [] => Nat.le_refl _
  | a :: r => by
    have := len_lenA r
    show 2 * (r.length + 1) ≤ lenB a + 2 + lenA r
    omega
def lisC : Con := fun cs ω Φ => ∃ d, cs = [.dat d] ∧ lenB d ≤ 1900000 ∧ Φ ω (.dat (.bool (isFd d)))
theorem r_law_is_formula (T : Txt K mg) : Rdy P w K mg base 5 "_law_is_formula" ["thing"] lisC := by
  refine rdy T._law_is_formula_ sc__law_is_formula (fun cs ω Φ ⟨_, e, _⟩ => by rw [e]; rfl) fun X f cdv A outer s H E hX hr cs ω Φ ⟨d, e, hz, q⟩ => ?_
  have hu := room_u64 hr
  subst hX; subst e
  refine b_cons ?_
  refine s_set 1 sc__law_is_formula.nd ?_
  refine n_lstOU ?_
  refine na_cons ?_
  refine n_var 0 ?_
  refine na_nil ?_
  refine ⟨_, rfl, rfl, fun p => ?_⟩
  refine b_cons (s_while PassesOwn.never (fun m ω' δ' => ∃ ds x2 x3, m = lenA ds ∧ m ≤ 1900002 ∧ ω' = (p, lstP ds) :: ω ∧ δ' = [some (.dat d), some (.raw (.ref p)), x2, x3] ∧ isFd d = ds.all isFd) ⟨_, [d], _, _, rfl, by show lenB d + 2 + 0 ≤ _; omega, rfl, rfl, by show isFd d = (isFd d && true); rw [Bool.and_true]⟩ ?_)
  rintro m ω1 δ1 ⟨ds, x2, x3, rfl, hm, rfl, rfl, hq⟩
  refine nt_neEO 1 0 hu rfl rfl ?_
  rcases List.eq_nil_or_concat ds with rfl | ⟨ds', one, rfl⟩
  · refine ite2 (fun h => absurd (of_decide_eq_true h) (fun z => z rfl)) (fun _ => ?_)
    rw [hq] at q
    refine b_one ?_
    refine s_ret ?_
    refine n_drop ?_
    refine n_bl ?_
    exact ⟨p, _, _, rfl, q⟩
  rw [List.concat_eq_append] at hm hq ⊢
  refine ite2 (fun _ => ?_) (fun h => absurd (decide_eq_true (by simp)) h)
  have hA : lenA (ds' ++ [one]) = lenA ds' + (lenB one + 2 + 0) := lenA_append ds' [one]
  have hall : (ds' ++ [one]).all isFd = (ds'.all isFd && isFd one) := by
    rw [List.all_append]
    show (_ && (isFd one && true)) = _
    rw [Bool.and_true]
  rw [hall] at hq
  refine b_cons ?_
  refine s_set 2 sc__law_is_formula.nd ?_
  refine n_popO 1 0 rfl rfl ?_
  show B _ ((p, lstP ds') :: ω) _ _ _
  have no : isFd one = false → Φ ω (.dat (.bool false)) := fun z => by
    rw [hq, z, Bool.and_false] at q
    exact q
  refine b_cons ?_
  refine s_if ?_
  refine nt_w ?_
  refine nw_or ?_
  refine nt_not ?_
  refine nt_val ?_
  refine n_isi .tuple T.z_isinstance T.z_tuple ?_
  refine n_var 2 ?_
  refine ⟨one, rfl, _, rfl, ?_⟩
  refine ite2 (fun h => ?_) (fun h => ?_)
  · refine b_one ?_
    refine s_ret ?_
    refine n_drop ?_
    refine n_bl ?_
    exact ⟨p, _, _, rfl, no (isF_not (by simpa using h))⟩
  obtain ⟨xs, rfl⟩ : ∃ xs, one = .tuple xs := by cases one <;> first | exact ⟨_, rfl⟩ | exact absurd rfl h
  refine nw_or ?_
  refine nt_eq hu ?_
  refine n_len T.z_len ?_
  refine n_var 2 ?_
  refine ⟨_, _, rfl, rfl, ?_⟩
  refine n_int ⟨_, _, rfl, rfl, rfl, rfl, ?_⟩
  rw [eqv_ints]
  cases xs with
  | nil =>
    refine ite2 (fun _ => ?_) (fun h => absurd rfl h)
    refine b_one ?_
    refine s_ret ?_
    refine n_drop ?_
    refine n_bl ?_
    exact ⟨p, _, _, rfl, no (by rw [isF_tup]; rfl)⟩
  | cons x r =>
    refine ite2 (fun h => absurd (eq_of_beq h) (by show ¬ (((r.length + 1 : Nat) : Int) = 0); omega)) (fun _ => ?_)
    refine nw_or1 ?_
    refine nt_not ?_
    refine nt_val ?_
    refine n_isi .str T.z_isinstance T.z_str ?_
    refine n_ixt (fun _ _ => rfl) ?_
    refine n_var 2 ?_
    refine n_int ?_
    refine ⟨_, _, x, rfl, rfl, atI_nat (j := 0) rfl, x, rfl, _, rfl, ?_⟩
    refine ite2 (fun h => ?_) (fun h => ?_)
    · refine b_one ?_
      refine s_ret ?_
      refine n_drop ?_
      refine n_bl ?_
      have e : innerD (x :: r) = none := by cases x <;> first | rfl | cases h
      exact ⟨p, _, _, rfl, no (by rw [isF_tup, e])⟩
    obtain ⟨wd, rfl⟩ : ∃ s, x = .str s := by cases x <;> first | exact ⟨_, rfl⟩ | exact absurd rfl h
    refine b_nil ?_
    refine b_cons ?_
    refine s_set 3 sc__law_is_formula.nd ?_
    refine n_fn (r_law_inner T) hr ?_
    refine na_cons ?_
    refine n_var 2 ?_
    refine na_nil ?_
    refine ⟨wd, r, rfl, ?_⟩
    refine b_cons ?_
    refine s_if ?_
    refine nt_isN ?_
    refine n_var 3 ?_
    refine ⟨_, rfl, ?_⟩
    cases hi : innerD (.str wd :: r) with
    | none =>
      refine ite2 (fun _ => ?_) (fun h => absurd rfl h)
      refine b_one ?_
      refine s_ret ?_
      refine n_drop ?_
      refine n_bl ?_
      exact ⟨p, _, _, rfl, no (by rw [isF_tup, hi])⟩
    | some fs =>
      refine ite2 (fun h => absurd h (by show ¬ (false = true); decide)) (fun _ => ?_)
      refine b_nil ?_
      have hI := inn_of hi
      have h1 := inn_size hI
      have hF : isFd (.tuple (.str wd :: r)) = fs.all isFd := by rw [isF_tup, hi]
      have l1 := len_lenA ds'
      have l2 := len_lenA fs
      refine b_one ?_
      refine s_extendO 1 0 rfl ⟨_, rfl⟩ ?_
      refine n_var 3 ?_
      refine ⟨ds', fs, rfl, rfl, by omega, _, ?_, ds' ++ fs, _, _, rfl, ?_, rfl, rfl, ?_⟩
      · rw [lenA_append]; omega
      · rw [lenA_append]; omega
      · rw [hq, hF, List.all_append]
def lfC (n : Nat) (F : PyData → PyData) : Con := fC n F
theorem r_lreads_step (T : Txt K mg) {n lv : Nat} (h1 : 4 ≤ lv) (R : Rdy P w K mg base lv "_law_reads" ["formula"] (fC n fun d => .list (readsD d))) : Rdy P w K mg base (lv + 1) "_law_reads" ["formula"] (fC (n + 1) fun d => .list (readsD d)) := by
  refine rdy T._law_reads_ sc__law_reads (fun cs ω Φ ⟨_, e, _⟩ => by rw [e]; rfl) fun X f cdv A outer s H E hX hr cs ω Φ ⟨d, e, hn, hF, q⟩ => ?_
  subst hX; subst e
  try dsimp only at q
  obtain ⟨xs, ds, rfl, hI, hkk, hk, hz⟩ := hF.form
  obtain ⟨wd, rest, rfl, _⟩ := inn_word hI
  have hsz := hF.sz
  rw [reads_form hI] at q
  refine b_cons ?_
  refine s_if ?_
  refine nt_eqS ?_
  refine n_ixt (fun _ _ => rfl) ?_
  refine n_var 0 ?_
  refine n_int ?_
  refine ⟨_, _, _, rfl, rfl, atI_0, ?_⟩
  refine n_str ⟨_, _, rfl, rfl, ?_⟩
  refine ite2 (fun h => ?_) (fun k1 => ?_)
  · rw [if_pos (of_decide_eq_true h)] at q
    refine b_one ?_
    refine s_ret ?_
    refine n_lstU ?_
    refine na_cons ?_
    refine n_var 0 ?_
    refine na_nil ?_
    exact ⟨_, rfl, rfl, q⟩
  rw [if_neg (fun z => k1 (decide_eq_true z))] at q
  refine b_nil ?_
  refine b_cons ?_
  refine s_if ?_
  refine nt_in (by rfl) ?_
  refine n_ixt (fun _ _ => rfl) ?_
  refine n_var 0 ?_
  refine n_int ?_
  refine ⟨_, _, _, rfl, rfl, atI_0, ?_⟩
  repeat walk_at "dx"
  refine ⟨_, _, rfl, .inl rfl, rfl, rfl, ?_⟩
  rw [inD_R4]
  refine ite2 (fun h => ?_) (fun k2 => ?_)
  · rw [if_pos h] at q
    obtain ⟨r, rfl, rfl, _⟩ := inn_rang hI h
    refine b_one ?_
    refine s_ret ?_
    refine n_lstU ?_
    refine na_cons ?_
    refine n_ixt (fun _ _ => rfl) ?_
    refine n_var 0 ?_
    refine n_int ?_
    exact ⟨_, _, _, rfl, rfl, atI_1, na_nil ⟨_, rfl, rfl, q⟩⟩
  rw [if_neg k2] at q
  refine b_nil ?_
  refine b_cons ?_
  refine s_set 1 sc__law_reads.nd ?_
  refine n_lstU ?_
  refine na_nil ?_
  refine ⟨_, rfl, rfl, ?_⟩
  refine b_cons ?_
  refine s_forD 2 PassesOwn.never rfl sc__law_reads.nd ?_
  refine n_fn (r_law_inner T) hr (hjk := by omega) ?_
  refine na_cons ?_
  refine n_var 0 ?_
  refine na_nil ?_
  refine ⟨wd, rest, rfl, ?_⟩
  rw [inn_to hI]
  refine ⟨ds, rfl, fun i ω2 δ2 => ω2 = ω ∧ ∃ x2, δ2 = [some (.dat (.tuple (.str wd :: rest))), some (.dat (.list ((ds.take i).map readsD).flatten)), x2], ⟨rfl, _, rfl⟩, ?_, ?_⟩
  · rintro i ω2 δ2 d0 hd ⟨rfl, x2, rfl⟩
    have hm := List.mem_of_getElem? hd
    refine b_one ?_
    refine s_set 1 sc__law_reads.nd ?_
    refine n_catL ?_
    refine n_var 1 ?_
    refine n_fn R hr (hjk := Nat.le_refl _) ?_
    refine na_cons ?_
    refine n_var 2 ?_
    refine na_nil ?_
    refine ⟨d0, rfl, by have := (hk d0 hm).2; omega, (hk d0 hm).1, _, _, rfl, rfl, ?_, rfl, some (.dat d0), ?_⟩
    · rw [← List.length_append, ← flat_take hd]
      have g1 := flat_len (f := readsD) (ds := ds.take (i + 1)) fun x hx => (reads_size (hk x (List.mem_of_mem_take hx)).1.f).2
      have g2 := lenA_take ds (i + 1)
      omega
    · rw [flat_take hd]
      rfl
  · rintro ω2 δ2 ⟨rfl, x2, rfl⟩
    rw [List.take_length]
    refine b_one ?_
    refine s_ret ?_
    refine n_var 1 ?_
    exact q
theorem r_lreads (T : Txt K mg) : ∀ n : Nat, Rdy P w K mg base (4 + n) "_law_reads" ["formula"] (fC n fun d => .list (readsD d))
  | 0 => rdy (k := 3) T._law_reads_ (sc := sc__law_reads) (fun cs ω Φ ⟨_, _, h, _⟩ => absurd h (Nat.not_lt_zero _)) fun X f cdv A outer s H E hX hr cs ω Φ ⟨_, _, h, _⟩ => absurd h (Nat.not_lt_zero _)
  | n + 1 => r_lreads_step T (Nat.le_add_right 4 n) (r_lreads T n)
theorem r_lall_step (T : Txt K mg) {n lv : Nat} (h1 : 4 ≤ lv) (R : Rdy P w K mg base lv "_law_all_inner" ["formula"] (fC n fun d => .list (allD d))) : Rdy P w K mg base (lv + 1) "_law_all_inner" ["formula"] (fC (n + 1) fun d => .list (allD d)) := by
  refine rdy T._law_all_inner_ sc__law_all_inner (fun cs ω Φ ⟨_, e, _⟩ => by rw [e]; rfl) fun X f cdv A outer s H E hX hr cs ω Φ ⟨d, e, hn, hF, q⟩ => ?_
  subst hX; subst e
  try dsimp only at q
  obtain ⟨xs, ds, rfl, hI, hkk, hk, hz⟩ := hF.form
  obtain ⟨wd, rest, rfl, _⟩ := inn_word hI
  have hsz := hF.sz
  rw [all_eq, hkk] at q
  refine b_cons ?_
  refine s_set 1 sc__law_all_inner.nd ?_
  refine n_lstU ?_
  refine na_cons ?_
  refine n_var 0 ?_
  refine na_nil ?_
  refine ⟨_, rfl, rfl, ?_⟩
  refine b_cons ?_
  refine s_forD 2 PassesOwn.never rfl sc__law_all_inner.nd ?_
  refine n_fn (r_law_inner T) hr (hjk := by omega) ?_
  refine na_cons ?_
  refine n_var 0 ?_
  refine na_nil ?_
  refine ⟨wd, rest, rfl, ?_⟩
  rw [inn_to hI]
  refine ⟨ds, rfl, fun i ω2 δ2 => ω2 = ω ∧ ∃ x2, δ2 = [some (.dat (.tuple (.str wd :: rest))), some (.dat (.list (.tuple (.str wd :: rest) :: ((ds.take i).map allD).flatten))), x2], ⟨rfl, _, rfl⟩, ?_, ?_⟩
  · rintro i ω2 δ2 d0 hd ⟨rfl, x2, rfl⟩
    have hm := List.mem_of_getElem? hd
    refine b_one ?_
    refine s_set 1 sc__law_all_inner.nd ?_
    refine n_catL ?_
    refine n_var 1 ?_
    refine n_fn R hr (hjk := Nat.le_refl _) ?_
    refine na_cons ?_
    refine n_var 2 ?_
    refine na_nil ?_
    refine ⟨d0, rfl, by have := (hk d0 hm).2; omega, (hk d0 hm).1, _, _, rfl, rfl, ?_, rfl, some (.dat d0), ?_⟩
    · have g1 := flat_len (f := allD) (ds := ds.take (i + 1)) fun x hx => all_size (hk x (List.mem_of_mem_take hx)).1.f
      have g2 := lenA_take ds (i + 1)
      rw [flat_take hd, List.length_append] at g1
      rw [List.length_cons]
      omega
    · rw [flat_take hd]
      rfl
  · rintro ω2 δ2 ⟨rfl, x2, rfl⟩
    rw [List.take_length]
    refine b_one ?_
    refine s_ret ?_
    refine n_var 1 ?_
    exact q
theorem r_lall (T : Txt K mg) : ∀ n : Nat, Rdy P w K mg base (4 + n) "_law_all_inner" ["formula"] (fC n fun d => .list (allD d))
  | 0 => rdy (k := 3) T._law_all_inner_ (sc := sc__law_all_inner) (fun cs ω Φ ⟨_, _, h, _⟩ => absurd h (Nat.not_lt_zero _)) fun X f cdv A outer s H E hX hr cs ω Φ ⟨_, _, h, _⟩ => absurd h (Nat.not_lt_zero _)
  | n + 1 => r_lall_step T (Nat.le_add_right 4 n) (r_lall T n)
/-! ## is it an input, does one lie within -/
theorem shaped_in : SeqAt.shaped (.tuple [.str "input"]) = true := by decide +kernel
theorem FOk.shaped {d : PyData} (h : FOk d) : SeqAt.shaped d = true := shaped_mk (lay_F h.f) (Nat.le_trans h.dp (by decide))
theorem eqv_input {d : PyData} (h : FOk d) : PyData.eqv d (.tuple [.str "input"]) = decide (wordD d = "input") := by
  by_cases hw : wordD d = "input"
  · rw [word_input h.f hw, SeqAt.eqv_refl _ (SeqAt.canLay_of_shaped shaped_in)]
    exact (decide_eq_true rfl).symm
  · rw [decide_eq_false hw]
    obtain ⟨xs, ds, rfl, hI, _⟩ := isF_form h.f
    obtain ⟨wd, rest, rfl, _⟩ := inn_word hI
    have hw : ¬ wd = "input" := hw
    simp [PyData.eqv, PyData.eqvAll, hw]
end
section
variable {P : Program} {w : World} {K : PySem.W.Frag} {mg : Str → Option Value} {base : Heap}
theorem nott {b : Bool} (h : (!b) = true) : b = false := by cases b <;> first | rfl | cases h
theorem nott2 {b : Bool} (h : ¬ (!b) = true) : b = true := by cases b <;> first | rfl | exact absurd rfl h
theorem room_u65 {k : Nat} {A : Around} (h : Room k A) : A.units + 65 < cLine := by have := h.un; omega
theorem room_u1 {k : Nat} {A : Around} (h : Room k A) : A.units + 1 < cLine := by have := h.un; omega
theorem mk3 (a b c : V) : mergeK [] [((.inr "head" : Key), a), (.inr "body", b), (.inr "foot", c)] = [(.inr "head", a), (.inr "body", b), (.inr "foot", c)] := by rfl
theorem rows_if {pl : Str} : (if pl = "head" then PyData.list [.str "head"] else if pl = "body" then .list [.str "head", .str "by"] else .list [.str "head", .str "last", .str "foot"]) = .list ((rowsOf pl).map .str) := by
  unfold rowsOf
  split
  · rfl
  split <;> rfl
theorem eqv_nones {b c : PyData} (h1 : isEndD b = true) (h2 : isEndD c = true) : PyData.eqv (.tuple [b, c]) (.tuple [.none, .none]) = (isNone b && isNone c) := by
  rcases end_form h1 with rfl | ⟨i, rfl⟩ <;> rcases end_form h2 with rfl | ⟨j, rfl⟩ <;> simp [PyData.eqv, PyData.eqvAll, isNone]
theorem shaped_ends {b c : PyData} (h1 : isEndD b = true) (h2 : isEndD c = true) : SeqAt.shaped (.tuple [b, c]) = true := by
  rcases end_form h1 with rfl | ⟨i, rfl⟩ <;> rcases end_form h2 with rfl | ⟨j, rfl⟩ <;> exact shaped_mk rfl (show 1 ≤ 64 by decide)
theorem r_law_fits (T : Txt K mg) (n : Nat) : Rdy P w K mg base (5 + n) "_law_fits" ["formula", "place"] (fitsC n) := by
  rw [show 5 + n = (4 + n) + 1 from by omega]
  refine rdy T._law_fits_ sc__law_fits (fun cs ω Φ ⟨_, _, e, _⟩ => by rw [e]; rfl) fun X f cdv A outer s H E hX hr cs ω Φ ⟨d, pl, e, hn, hF, hp, q⟩ => ?_
  have hu := room_u64 hr
  have hu5 := room_u65 hr
  have hu1 := room_u1 hr
  subst hX; subst e
  have hd60 := hF.dp
  refine b_cons ?_
  refine s_if ?_
  refine nt_eq hu ?_
  refine n_var 0 ?_
  refine n_tupU ?_
  refine na_cons ?_
  refine n_str ?_
  refine na_nil ?_
  refine ⟨_, rfl, rfl, d, _, rfl, rfl, hF.shaped, shaped_in, ?_⟩
  rw [eqv_input hF]
  unfold fitD at q
  refine ite2 (fun h => ?_) (fun h => ?_)
  · rw [if_pos (of_decide_eq_true h)] at q
    refine b_one ?_
    refine s_ret ?_
    refine n_neS ?_
    refine n_var 1 ?_
    refine n_str ?_
    exact ⟨_, _, rfl, rfl, q⟩
  rw [if_neg (fun z => h (decide_eq_true z))] at q
  refine b_nil ?_
  refine b_cons ?_
  refine s_if ?_
  refine nt_inD hu5 (by rfl) ?_
  refine n_tupU ?_
  refine na_cons ?_
  refine n_str ?_
  refine na_nil ?_
  refine ⟨_, rfl, rfl, ?_⟩
  refine n_fn (r_lall T n) hr (hjk := Nat.le_refl _) ?_
  refine na_cons ?_
  refine n_var 0 ?_
  refine na_nil ?_
  have hall := all_ok n d hn hF
  refine ⟨d, rfl, hn, hF, _, _, rfl, rfl, shaped_in, ?_, ?_⟩
  · refine shaped_mk (show PyData.canLayAll0 (allD d) = true from lay_all fun x hx => lay_F (hall x hx).1.f) ?_
    have := depth_mk (xs := allD d) (k := 60) fun x hx => (hall x hx).1.dp
    simp only [PyData.depth]
    omega
  rw [any_cong (ds := allD d) (g := fun x => decide (wordD x = "input")) fun x hx => eqv_input (hall x hx).1, ← inp_all n d hn hF.f]
  refine ite2 (fun h => ?_) (fun h => ?_)
  · rw [if_pos h] at q
    refine b_one ?_
    refine s_ret ?_
    refine n_bl ?_
    exact q
  rw [if_neg h] at q
  refine b_nil ?_
  refine b_cons ?_
  refine s_forD 2 PassesOwn.never rfl sc__law_fits.nd ?_
  refine n_fn (r_lreads T n) hr (hjk := Nat.le_refl _) ?_
  refine na_cons ?_
  refine n_var 0 ?_
  refine na_nil ?_
  refine ⟨d, rfl, hn, hF, readsD d, rfl, fun i ω2 δ2 => ω2 = ω ∧ ((readsD d).take i).all (fitR pl) = true ∧ ∃ x2, δ2 = [some (.dat d), some (.dat (.str pl)), x2], ⟨rfl, rfl, _, rfl⟩, ?_, ?_⟩
  · rintro i ω2 δ2 r hd ⟨rfl, h1, x2, rfl⟩
    have hm := List.mem_of_getElem? hd
    have no : fitR pl r = false → Φ ω2 (.dat (.bool false)) := fun z => by
      have e : (readsD d).all (fitR pl) = false := by
        rw [Bool.eq_false_iff]
        intro y
        rw [List.all_eq_true.mp y r hm] at z
        cases z
      rw [e] at q
      exact q
    have yes : fitR pl r = true → ((readsD d).take (i + 1)).all (fitR pl) = true := fun z => by
      rw [List.take_add_one, hd, List.all_append, h1]
      show (true && (fitR pl r && true)) = true
      rw [z]; rfl
    refine b_one ?_
    refine s_if ?_
    refine nt_eqS ?_
    refine n_ixt (fun _ _ => rfl) ?_
    refine n_var 2 ?_
    refine n_int ?_
    rcases (reads_ok n d hn hF r hm).2 with hR | hR
    · obtain ⟨a, b, rfl, h3, h4⟩ := name_form hR
      obtain ⟨s, rr, rfl⟩ := row_word h4
      rw [fit_name] at no yes
      refine ⟨_, _, _, rfl, rfl, atI_0, ?_⟩
      refine n_str ⟨_, _, rfl, rfl, ?_⟩
      refine ite2 (fun h => absurd (of_decide_eq_true h) nnr) (fun _ => ?_)
      refine b_one ?_
      refine s_if ?_
      refine nt_nin (by rfl) ?_
      refine n_ixt (fun _ _ => rfl) ?_
      refine n_ixt (fun _ _ => rfl) ?_
      refine n_var 2 ?_
      refine n_int ?_
      refine ⟨_, _, _, rfl, rfl, atI_2, ?_⟩
      refine n_int ⟨_, _, _, rfl, rfl, atI_0, ?_⟩
      refine n_dget3 ?h1 ?h2 ?_
      case h2 => exact fun _ _ => rfl
      case h1 => exact hu
      with_reducible refine n_dict3 (d1 := .list [.str "head"]) (d2 := .list [.str "head", .str "by"]) (d3 := .list [.str "head", .str "last", .str "foot"]) ?hk ?va ?vb ?vc ?_
      case hk => exact mk3
      case va =>
        intro p
        refine n_lstU ?_
        refine na_cons ?_
        refine n_str ?_
        refine na_nil ?_
        exact ⟨_, rfl, rfl, rfl, rfl⟩
      case vb =>
        intro p
        refine n_lstU ?_
        refine na_cons ?_
        refine n_str ?_
        refine na_cons ?_
        refine n_str ?_
        refine na_nil ?_
        exact ⟨_, rfl, rfl, rfl, rfl⟩
      case vc =>
        intro p
        refine n_lstU ?_
        refine na_cons ?_
        refine n_str ?_
        refine na_cons ?_
        refine n_str ?_
        refine na_cons ?_
        refine n_str ?_
        refine na_nil ?_
        exact ⟨_, rfl, rfl, rfl, rfl⟩
      refine n_var 1 ⟨_, _, _, _, _, _, pl, rfl, rfl, p3 hp, ?_⟩
      rw [rows_if]
      refine ⟨_, _, rfl, .inr rfl, rfl, flat_strs _, ?_⟩
      rw [inD_words (rowsOf pl) rfl]
      refine ite2 (fun h => ?_) (fun h => ?_)
      · refine b_one ?_
        refine s_ret ?_
        refine n_bl ?_
        exact no (nott h)
      · exact b_nil ⟨rfl, yes (nott2 h), _, rfl⟩
    · obtain ⟨a, b, c, rfl, h3, h4, h5⟩ := range_form hR
      rw [fit_range] at no yes
      refine ⟨_, _, _, rfl, rfl, atI_0, ?_⟩
      refine n_str ⟨_, _, rfl, rfl, ?_⟩
      refine ite2 (fun _ => ?_) (fun h => absurd (decide_eq_true rfl) h)
      refine b_one ?_
      refine s_if ?_
      refine nt_or ?_
      refine nt_eqS ?_
      refine n_var 1 ?_
      refine n_str ?_
      refine ⟨_, _, rfl, rfl, ?_⟩
      refine ite2 (fun h => ?_) (fun k1 => ?_)
      · have h := of_decide_eq_true h
        subst h
        refine b_one ?_
        refine s_ret ?_
        refine n_bl ?_
        exact no (by rw [decide_eq_false (by decide +kernel : ¬ ("head" : Str) = "body"), decide_eq_false (by decide +kernel : ¬ ("head" : Str) = "foot")]; rfl)
      refine nt_and ?_
      refine nt_eqS ?_
      refine n_var 1 ?_
      refine n_str ?_
      refine ⟨_, _, rfl, rfl, ?_⟩
      refine ite2 (fun h => ?_) (fun k2 => ?_)
      · have h := of_decide_eq_true h
        subst h
        rw [decide_eq_false (by decide +kernel : ¬ ("foot" : Str) = "body"), decide_eq_true rfl, Bool.false_or, Bool.true_and] at no yes
        refine nt_ne hu ?_
        refine n_slT ?_
        refine n_var 2 ?_
        show N _ _ _ _ _
        refine n_int ⟨2, rfl, _, rfl, ?_⟩
        rw [cut2]
        refine n_tupU ?_
        refine na_cons ?_
        refine n_non ?_
        refine na_cons ?_
        refine n_non ?_
        refine na_nil ?_
        refine ⟨_, rfl, rfl, _, _, rfl, rfl, shaped_ends h4 h5, by decide, ?_⟩
        rw [eqv_nones h4 h5]
        refine ite2 (fun h => ?_) (fun h => ?_)
        · refine b_one ?_
          refine s_ret ?_
          refine n_bl ?_
          exact no (nott h)
        · exact b_nil ⟨rfl, yes (nott2 h), _, rfl⟩
      · have hb : pl = "body" := by
          rcases p3 hp with h | h | h
          · exact absurd (decide_eq_true h) k1
          · exact h
          · exact absurd (decide_eq_true h) k2
        exact b_nil ⟨rfl, yes (by rw [decide_eq_true hb]; rfl), _, rfl⟩
  · rintro ω2 δ2 ⟨rfl, h1, x2, rfl⟩
    rw [List.take_length] at h1
    rw [h1] at q
    refine b_one ?_
    refine s_ret ?_
    refine n_bl ?_
    exact q
end
section
variable {P : Program} {w : World} {K : PySem.W.Frag} {mg : Str → Option Value} {base : Heap}
theorem col_by (i : Int) : colPartD (.tuple [.str "by", .int i]) = true := by
  rw [colPart_else (by decide +kernel)]
  show (true && (true && (decide (("by" : Str) = "by") || _))) = true
  rw [decide_eq_true rfl]; rfl
theorem col_at {i : Int} (h : 0 ≤ i) : colPartD (.tuple [.str "at", .int i]) = true := by
  rw [colPart_else (by decide +kernel)]
  show (true && (true && (_ || (decide (("at" : Str) = "at") && decide (0 ≤ i))))) = true
  rw [decide_eq_true rfl, decide_eq_true h]
  show (true && (true && (_ || true))) = true
  rw [Bool.or_true]; rfl
theorem col_lost : colPartD (.tuple [.str "lost"]) = true := by
  rw [colPart_lost]; rfl
def partC : Con := fun cs ω Φ => ∃ (n : Nat) (p : Addr), cs = [.raw (.ref p)] ∧ ω[n]? = some (p, bagP) ∧ ∀ d, PartOk d → colPartD d = true → Φ ω (.dat d)
theorem r_column_part (T : Txt K mg) : Rdy P w K mg base 2 "_law_column_part" ["bag"] partC := by
  refine rdy T._law_column_part_ sc__law_column_part (fun cs ω Φ ⟨_, _, e, _⟩ => by rw [e]; rfl) fun X f cdv A outer s H E hX hr cs ω Φ ⟨n, p, e, hw, q⟩ => ?_
  have hu := room_u64 hr
  subst hX; subst e
  refine b_cons ?_
  refine s_set 1 sc__law_column_part.nd ?_
  refine n_fn (r_take T) hr ?_
  refine na_cons ?_
  refine n_var 0 ?_
  refine na_cons ?_
  refine n_int ?_
  refine na_nil ?_
  refine ⟨n, p, _, rfl, hw, by decide, by decide, fun v _ _ => ?_⟩
  refine b_cons ?_
  refine s_if ?_
  refine nt_eq hu ?_
  refine n_var 1 ?_
  refine n_int ?_
  refine ⟨_, _, rfl, rfl, rfl, rfl, ?_⟩
  refine ite2 (fun _ => ?_) (fun _ => ?_)
  · refine b_one ?_
    refine s_ret ?_
    refine n_tupU ?_
    refine na_cons ?_
    refine n_str ?_
    refine na_nil ?_
    exact ⟨_, rfl, rfl, q _ (.inl rfl) col_lost⟩
  refine b_nil ?_
  refine b_one ?_
  refine s_ret ?_
  refine n_ifx (ΦT := fun _ _ => True) ?_
  refine nt_lt ?_
  refine n_var 1 ?_
  refine n_int ?_
  refine ⟨_, _, rfl, rfl, ?_⟩
  refine ite2 (fun _ => ?_) (fun _ => ?_)
  · refine n_tupU ?_
    refine na_cons ?_
    refine n_str ?_
    refine na_cons ?_
    refine n_fn (r_take T) hr ?_
    refine na_cons ?_
    refine n_var 0 ?_
    refine na_cons ?_
    refine n_int ?_
    refine na_nil ?_
    refine ⟨n, p, _, rfl, hw, by decide, by decide, fun u _ _ => na_nil ⟨_, rfl, rfl, q _ (.inr ⟨"at", u, .inr rfl, rfl, by omega, by omega⟩) (col_at (by assumption))⟩⟩
  · refine n_tupU ?_
    refine na_cons ?_
    refine n_str ?_
    refine na_cons ?_
    refine n_ixl (fun _ _ => rfl) ?_
    refine n_lstU ?_
    refine na_cons ?_
    refine n_int ?_
    refine na_cons ?_
    refine n_int ?_
    refine na_cons ?_
    refine n_neg ?_
    refine n_int ?_
    refine ⟨_, rfl, ?_⟩
    refine na_cons ?_
    refine n_int ?_
    refine na_cons ?_
    refine n_sub ?_
    refine n_fn (r_take T) hr ?_
    refine na_cons ?_
    refine n_var 0 ?_
    refine na_cons ?_
    refine n_int ?_
    refine na_nil ?_
    refine ⟨n, p, _, rfl, hw, by decide, by decide, fun u _ _ => ?_⟩
    refine n_int ⟨_, _, rfl, rfl, na_nil ⟨_, rfl, rfl, ?_⟩⟩
    refine n_fn (r_take T) hr ?_
    refine na_cons ?_
    refine n_var 0 ?_
    refine na_cons ?_
    refine n_int ?_
    refine na_nil ?_
    refine ⟨n, p, _, rfl, hw, by decide, by decide, fun k k0 k1 => ?_⟩
    obtain ⟨d, h1, h2⟩ := atI_in (ds := [PyData.int 0, .int 0, .int (-1), .int 1, .int (u - 7)]) k0 k1
    refine ⟨_, _, d, rfl, rfl, h1, na_nil ?_⟩
    obtain ⟨i, rfl, i0, i1⟩ := mem_ints (ns := [PyData.int 0, .int 0, .int (-1), .int 1, .int (u - 7)]) (by
      show (true && (true && (true && (true && ((decide (-100 ≤ u - 7) && decide (u - 7 ≤ 100)) && true))))) = true
      rw [decide_eq_true (show -100 ≤ u - 7 by omega), decide_eq_true (show u - 7 ≤ 100 by omega)]; rfl) (List.mem_of_getElem? h2)
    exact ⟨_, rfl, rfl, q _ (.inr ⟨"by", i, .inl rfl, rfl, i0, i1⟩) (col_by i)⟩
theorem endOk_is {d : PyData} (h : endOk d) : isEndD d = true := by
  rcases h with rfl | ⟨i, rfl, _, _⟩ <;> rfl
def rangeC : Con := fun cs ω Φ => ∃ (n : Nat) (p : Addr) (s : Str), cs = [.raw (.ref p), .dat (.str s)] ∧ ω[n]? = some (p, bagP) ∧ ∀ d, isRangeD d = true → Neat 1000 2 d → Φ ω (.dat d)
def nameC : Con := fun cs ω Φ => ∃ (n : Nat) (p : Addr) (s : Str), cs = [.raw (.ref p), .dat (.str s)] ∧ ω[n]? = some (p, bagP) ∧ ∀ d, isNameD d = true → Neat 1000 2 d → Φ ω (.dat d)
theorem r_range (T : Txt K mg) : Rdy P w K mg base 3 "_law_range" ["bag", "place"] rangeC := by
  refine rdy T._law_range_ sc__law_range (fun cs ω Φ ⟨_, _, _, e, _⟩ => by rw [e]; rfl) fun X f cdv A outer s H E hX hr cs ω Φ ⟨n, p, pl, e, hw, q⟩ => ?_
  subst hX; subst e
  refine b_cons ?_
  refine s_unp 2 3 rfl sc__law_range.nd ?_
  refine n_tupU ?_
  refine na_cons ?_
  refine n_non ?_
  refine na_cons ?_
  refine n_non ?_
  refine na_nil ?_
  refine ⟨_, rfl, rfl, _, _, rfl, ?_⟩
  refine b_mid (fun ω' δ' => ω' = ω ∧ ∃ d, endOk d ∧ δ' = [some (.raw (.ref p)), some (.dat (.str pl)), some (.dat d), some (.dat .none)]) ?_ ?_
  · refine s_if ?_
    refine nt_and ?_
    refine nt_eqS ?_
    refine n_var 1 ?_
    refine n_str ?_
    refine ⟨_, _, rfl, rfl, ?_⟩
    refine ite2 (fun _ => ?_) (fun _ => b_nil ⟨rfl, _, .inl rfl, rfl⟩)
    refine nt_gt ?_
    refine n_fn (r_take T) hr ?_
    refine na_cons ?_
    refine n_var 0 ?_
    refine na_cons ?_
    refine n_int ?_
    refine na_nil ?_
    refine ⟨n, p, _, rfl, hw, by decide, by decide, fun v _ _ => ?_⟩
    refine n_int ⟨_, _, rfl, rfl, ?_⟩
    refine ite2 (fun _ => ?_) (fun _ => b_nil ⟨rfl, _, .inl rfl, rfl⟩)
    refine b_one ?_
    refine s_set 2 sc__law_range.nd ?_
    refine n_sub ?_
    refine n_fn (r_take T) hr ?_
    refine na_cons ?_
    refine n_var 0 ?_
    refine na_cons ?_
    refine n_int ?_
    refine na_nil ?_
    refine ⟨n, p, _, rfl, hw, by decide, by decide, fun u _ _ => ?_⟩
    exact n_int ⟨_, _, rfl, rfl, rfl, _, .inr ⟨u - 5, rfl, by omega, by omega⟩, rfl⟩
  rintro ω' δ' ⟨rfl, lo, hlo, rfl⟩
  refine b_mid (fun ω2 δ' => ω2 = ω' ∧ ∃ d, endOk d ∧ δ' = [some (.raw (.ref p)), some (.dat (.str pl)), some (.dat lo), some (.dat d)]) ?_ ?_
  · refine s_if ?_
    refine nt_and ?_
    refine nt_eqS ?_
    refine n_var 1 ?_
    refine n_str ?_
    refine ⟨_, _, rfl, rfl, ?_⟩
    refine ite2 (fun _ => ?_) (fun _ => b_nil ⟨rfl, _, .inl rfl, rfl⟩)
    refine nt_gt ?_
    refine n_fn (r_take T) hr ?_
    refine na_cons ?_
    refine n_var 0 ?_
    refine na_cons ?_
    refine n_int ?_
    refine na_nil ?_
    refine ⟨n, p, _, rfl, hw, by decide, by decide, fun v _ _ => ?_⟩
    refine n_int ⟨_, _, rfl, rfl, ?_⟩
    refine ite2 (fun _ => ?_) (fun _ => b_nil ⟨rfl, _, .inl rfl, rfl⟩)
    refine b_one ?_
    refine s_set 3 sc__law_range.nd ?_
    refine n_sub ?_
    refine n_fn (r_take T) hr ?_
    refine na_cons ?_
    refine n_var 0 ?_
    refine na_cons ?_
    refine n_int ?_
    refine na_nil ?_
    refine ⟨n, p, _, rfl, hw, by decide, by decide, fun u _ _ => ?_⟩
    exact n_int ⟨_, _, rfl, rfl, rfl, _, .inr ⟨u - 5, rfl, by omega, by omega⟩, rfl⟩
  rintro ω2 δ' ⟨rfl, hi, hhi, rfl⟩
  refine b_one ?_
  refine s_ret ?_
  refine n_tupU ?_
  refine na_cons ?_
  refine n_str ?_
  refine na_cons ?_
  refine n_fn (r_column_part T) hr ?_
  refine na_cons ?_
  refine n_var 0 ?_
  refine na_nil ?_
  refine ⟨n, p, rfl, hw, fun part hp hcol => ?_⟩
  refine na_cons ?_
  refine n_var 2 ?_
  refine na_cons ?_
  refine n_var 3 ?_
  refine na_nil ?_
  refine ⟨_, rfl, rfl, q _ (range_mk hcol (endOk_is hlo) (endOk_is hhi)) (neat_read (ww := "rows") (rest := [lo, hi]) hp ⟨neat_str (by decide +kernel) (by decide +kernel), Nat.le_refl 2, ?_⟩)⟩
  intro x hx
  simp only [List.mem_cons, List.not_mem_nil, or_false] at hx
  rcases hx with rfl | rfl
  · exact ⟨neat_end hlo, tup_end hlo⟩
  · exact ⟨neat_end hhi, tup_end hhi⟩

/-- a row part -/
def RowP (d : PyData) : Prop := (Neat 200 1 d ∧ ∀ xs, d = .tuple xs → xs.length ≤ 2) ∧ rowPartD d = true
theorem row_by (i : Int) : rowPartD (.tuple [.str "by", .int i]) = true := by
  unfold rowPartD
  rw [show isWayD (.tuple [.str "by", .int i]) = true from by rw [way_str]; show ((true && decide (("by" : Str) = "by")) && true) = true; rw [decide_eq_true rfl]; rfl]
  simp
theorem row_last {i : Int} (h : 0 ≤ i) : rowPartD (.tuple [.str "last", .int i]) = true := by
  unfold rowPartD
  rw [show isCountD (.tuple [.str "last", .int i]) "last" = true from by rw [count_str]; show (((true && decide (("last" : Str) = "last")) && true) && decide (0 ≤ i)) = true; rw [decide_eq_true rfl, decide_eq_true h]; rfl]
  simp
theorem mem_nn {ns : List PyData} (h : ∀ d ∈ ns, ∃ i : Int, d = .int i ∧ 0 ≤ i ∧ i ≤ 100) {d : PyData} (hd : d ∈ ns) : ∃ i, d = .int i ∧ 0 ≤ i ∧ i ≤ 100 := h d hd
theorem row1 {s : Str} (h : Neat 60 0 (.str s)) (hp : rowPartD (.tuple [.str s]) = true) : RowP (.tuple [.str s]) :=
  ⟨⟨(neat_tuple (n := 60) (k := 0) (ds := [.str s]) (fun d hd => by rw [List.mem_singleton.mp hd]; exact h) (by decide)).mono (show 4 + 1 * (60 + 2) ≤ 200 by decide) (Nat.le_refl _), by rintro xs e; cases e; show 1 ≤ 2; decide⟩, hp⟩
theorem row2 {s : Str} {n : Int} (h : Neat 60 0 (.str s)) (hp : rowPartD (.tuple [.str s, .int n]) = true) (h1 : -100 ≤ n) (h2 : n ≤ 100) : RowP (.tuple [.str s, .int n]) :=
  ⟨⟨(neat_tuple (n := 60) (k := 0) (ds := [.str s, .int n]) (fun d hd => by
    simp only [List.mem_cons, List.not_mem_nil, or_false] at hd
    rcases hd with rfl | rfl
    · exact h
    · exact ⟨rfl, (small_shows (by omega) (by omega)).mono (by decide), Nat.le_refl 0⟩) (by decide)).mono (show 4 + 2 * (60 + 2) ≤ 200 by decide) (Nat.le_refl _), by rintro xs e; cases e; show 2 ≤ 2; decide⟩, hp⟩
theorem r_name (T : Txt K mg) : Rdy P w K mg base 3 "_law_name" ["bag", "place"] nameC := by
  refine rdy T._law_name_ sc__law_name (fun cs ω Φ ⟨_, _, _, e, _⟩ => by rw [e]; rfl) fun X f cdv A outer s H E hX hr cs ω Φ ⟨n, p, pl, e, hw, q⟩ => ?_
  have hu := room_u64 hr
  subst hX; subst e
  refine b_cons ?_
  refine s_set 2 sc__law_name.nd ?_
  refine n_fn (r_take T) hr ?_
  refine na_cons ?_
  refine n_var 0 ?_
  refine na_cons ?_
  refine n_int ?_
  refine na_nil ?_
  refine ⟨n, p, _, rfl, hw, by decide, by decide, fun v _ _ => ?_⟩
  refine b_cons ?_
  refine s_set 3 sc__law_name.nd ?_
  refine n_tupU ?_
  refine na_cons ?_
  refine n_str ?_
  refine na_nil ?_
  refine ⟨_, rfl, rfl, ?_⟩
  refine b_mid (fun ω' δ' => ω' = ω ∧ ∃ d, RowP d ∧ δ' = [some (.raw (.ref p)), some (.dat (.str pl)), some (.dat (.int v)), some (.dat d)]) ?_ ?_
  · refine s_if ?_
    refine nt_and ?_
    refine nt_eqS ?_
    refine n_var 1 ?_
    refine n_str ?_
    refine ⟨_, _, rfl, rfl, ?_⟩
    refine ite2 (fun _ => ?_) (fun _ => b_nil ⟨rfl, _, row1 (neat_str (by decide +kernel) (by decide +kernel)) (by decide +kernel), rfl⟩)
    refine nt_gt ?_
    refine n_var 2 ?_
    refine n_int ?_
    refine ⟨_, _, rfl, rfl, ?_⟩
    refine ite2 (fun _ => ?_) (fun _ => b_nil ⟨rfl, _, row1 (neat_str (by decide +kernel) (by decide +kernel)) (by decide +kernel), rfl⟩)
    refine b_one ?_
    refine s_set 3 sc__law_name.nd ?_
    refine n_tupU ?_
    refine na_cons ?_
    refine n_str ?_
    refine na_cons ?_
    refine n_ixl (fun _ _ => rfl) ?_
    refine n_lstU ?_
    refine na_cons ?_
    refine n_int ?_
    refine na_cons ?_
    refine n_neg ?_
    refine n_int ?_
    refine ⟨_, rfl, ?_⟩
    refine na_cons ?_
    refine n_neg ?_
    refine n_int ?_
    refine ⟨_, rfl, ?_⟩
    refine na_cons ?_
    refine n_int ?_
    refine na_cons ?_
    refine n_sub ?_
    refine n_fn (r_take T) hr ?_
    refine na_cons ?_
    refine n_var 0 ?_
    refine na_cons ?_
    refine n_int ?_
    refine na_nil ?_
    refine ⟨n, p, _, rfl, hw, by decide, by decide, fun u _ _ => ?_⟩
    refine n_int ⟨_, _, rfl, rfl, na_nil ⟨_, rfl, rfl, ?_⟩⟩
    refine n_fn (r_take T) hr ?_
    refine na_cons ?_
    refine n_var 0 ?_
    refine na_cons ?_
    refine n_int ?_
    refine na_nil ?_
    refine ⟨n, p, _, rfl, hw, by decide, by decide, fun k k0 k1 => ?_⟩
    obtain ⟨d, h1, h2⟩ := atI_in (ds := [PyData.int 0, .int (-1), .int (-1), .int 1, .int (u - 5)]) k0 k1
    refine ⟨_, _, d, rfl, rfl, h1, na_nil ?_⟩
    obtain ⟨i, rfl, i0, i1⟩ := mem_ints (ns := [PyData.int 0, .int (-1), .int (-1), .int 1, .int (u - 5)]) (by
      show (true && (true && (true && (true && ((decide (-100 ≤ u - 5) && decide (u - 5 ≤ 100)) && true))))) = true
      rw [decide_eq_true (show -100 ≤ u - 5 by omega), decide_eq_true (show u - 5 ≤ 100 by omega)]; rfl) (List.mem_of_getElem? h2)
    exact ⟨_, rfl, rfl, rfl, _, row2 (neat_str (by decide +kernel) (by decide +kernel)) (row_by i) i0 i1, rfl⟩
  rintro ω' δ' ⟨rfl, d1, hd1, rfl⟩
  refine b_mid (fun ω2 δ' => ω2 = ω' ∧ ∃ d, RowP d ∧ δ' = [some (.raw (.ref p)), some (.dat (.str pl)), some (.dat (.int v)), some (.dat d)]) ?_ ?_
  · refine s_if ?_
    refine nt_and ?_
    refine nt_eqS ?_
    refine n_var 1 ?_
    refine n_str ?_
    refine ⟨_, _, rfl, rfl, ?_⟩
    refine ite2 (fun _ => ?_) (fun _ => b_nil ⟨rfl, _, hd1, rfl⟩)
    refine nt_gt ?_
    refine n_var 2 ?_
    refine n_int ?_
    refine ⟨_, _, rfl, rfl, ?_⟩
    refine ite2 (fun _ => ?_) (fun _ => b_nil ⟨rfl, _, hd1, rfl⟩)
    refine b_one ?_
    refine s_set 3 sc__law_name.nd ?_
    refine n_ifx (ΦT := fun _ _ => True) ?_
    refine nt_eq hu ?_
    refine n_var 2 ?_
    refine n_int ?_
    refine ⟨_, _, rfl, rfl, rfl, rfl, ?_⟩
    refine ite2 (fun _ => ?_) (fun _ => ?_)
    · refine n_tupU ?_
      refine na_cons ?_
      refine n_str ?_
      refine na_nil ?_
      exact ⟨_, rfl, rfl, rfl, _, row1 (neat_str (by decide +kernel) (by decide +kernel)) (by decide +kernel), rfl⟩
    refine n_tupU ?_
    refine na_cons ?_
    refine n_str ?_
    refine na_cons ?_
    refine n_ixl (fun _ _ => rfl) ?_
    refine n_lstU ?_
    refine na_cons ?_
    refine n_int ?_
    refine na_cons ?_
    refine n_int ?_
    refine na_cons ?_
    refine n_fn (r_take T) hr ?_
    refine na_cons ?_
    refine n_var 0 ?_
    refine na_cons ?_
    refine n_int ?_
    refine na_nil ?_
    refine ⟨n, p, _, rfl, hw, by decide, by decide, fun u _ _ => ?_⟩
    refine na_nil ⟨_, rfl, rfl, ?_⟩
    refine n_fn (r_take T) hr ?_
    refine na_cons ?_
    refine n_var 0 ?_
    refine na_cons ?_
    refine n_int ?_
    refine na_nil ?_
    refine ⟨n, p, _, rfl, hw, by decide, by decide, fun k k0 k1 => ?_⟩
    obtain ⟨d, h1, h2⟩ := atI_in (ds := [PyData.int 0, .int 0, .int u]) k0 k1
    refine ⟨_, _, d, rfl, rfl, h1, na_nil ?_⟩
    obtain ⟨i, rfl, i0, i1⟩ := mem_nn (ns := [PyData.int 0, .int 0, .int u]) (by
      intro d hd
      simp only [List.mem_cons, List.not_mem_nil, or_false] at hd
      rcases hd with rfl | rfl | rfl
      · exact ⟨0, rfl, by omega, by omega⟩
      · exact ⟨0, rfl, by omega, by omega⟩
      · exact ⟨u, rfl, by assumption, by omega⟩) (List.mem_of_getElem? h2)
    exact ⟨_, rfl, rfl, rfl, _, row2 (neat_str (by decide +kernel) (by decide +kernel)) (row_last i0) (by omega) i1, rfl⟩
  rintro ω2 δ' ⟨rfl, d2, hd2, rfl⟩
  refine b_one ?_
  refine s_ret ?_
  refine n_tupU ?_
  refine na_cons ?_
  refine n_str ?_
  refine na_cons ?_
  refine n_fn (r_column_part T) hr ?_
  refine na_cons ?_
  refine n_var 0 ?_
  refine na_nil ?_
  refine ⟨n, p, rfl, hw, fun part hp hcol => ?_⟩
  refine na_cons ?_
  refine n_var 3 ?_
  refine na_nil ?_
  refine ⟨_, rfl, rfl, q _ (name_mk hcol hd2.2) (neat_read (ww := "name") (rest := [d2]) hp ⟨neat_str (by decide +kernel) (by decide +kernel), by show 1 ≤ 2; decide, ?_⟩)⟩
  intro x hx
  rw [List.mem_singleton.mp hx]
  exact hd2.1

end
section
variable {P : Program} {w : World} {K : PySem.W.Frag} {mg : Str → Option Value} {base : Heap}
/-- a made formula: its size, its depth -/
structure Fg (b k : Nat) (d : PyData) : Prop where
  f : isFd d = true
  ok : d.showable = true
  dp : d.depth ≤ k
  sz : lenB d ≤ b
theorem Fg.mono {b b' k k' : Nat} {d : PyData} (h : Fg b k d) (l : b ≤ b') (l2 : k ≤ k') : Fg b' k' d := ⟨h.f, h.ok, Nat.le_trans h.dp l2, Nat.le_trans h.sz l⟩
theorem wsh : (∀ w ∈ G3 ++ R4 ++ E2 ++ S6, (PyData.str w).showable = true ∧ (PyData.str w).depth = 0 ∧ lenB (.str w) ≤ 62) ∧ (∀ w ∈ (["times", "over", "case", "number", "name"] : List Str), (PyData.str w).showable = true ∧ (PyData.str w).depth = 0 ∧ lenB (.str w) ≤ 62) := by decide +kernel
theorem tup_fg {xs : List PyData} {k b : Nat} (h1 : ∀ x ∈ xs, x.showable = true ∧ x.depth ≤ k) (h2 : 4 + lenA xs ≤ b) (hF : isFd (.tuple xs) = true) : Fg b (k + 1) (.tuple xs) := by
  refine ⟨hF, show PyData.showableAll xs = true from showall_mk fun x hx => (h1 x hx).1, ?_, show 4 + lenA xs ≤ b from h2⟩
  have := depth_mk (xs := xs) (k := k) fun x hx => (h1 x hx).2
  simp only [PyData.depth]
  omega
theorem fg_num {i : Int} (h : isNumD (.int i) = true) (h2 : lenB (.int i) ≤ 60) (h3 : (PyData.int i).showable = true) : Fg 1100 3 (.tuple [.str "number", .int i]) := by
  have hs := wsh.2 "number" (by simp only [List.mem_cons, true_or, or_true])
  refine (tup_fg (k := 0) (b := 1100) (fun x hx => ?_) ?_ (isF_mk (.num _ h) (fun x hx => by cases hx))).mono (Nat.le_refl _) (by decide)
  · simp only [List.mem_cons, List.not_mem_nil, or_false] at hx
    rcases hx with rfl | rfl
    · exact ⟨hs.1, Nat.le_of_eq hs.2.1⟩
    · exact ⟨h3, Nat.le_refl 0⟩
  · show 4 + (lenB (.str "number") + 2 + (lenB (.int i) + 2 + 0)) ≤ 1100
    have := hs.2.2
    omega
theorem fg_bare {wd : Str} (h : wd ∈ E2) : Fg 1100 3 (.tuple [.str wd]) := by
  have hs := wsh.1 wd (List.mem_append_left _ (List.mem_append_right _ h))
  refine (tup_fg (k := 0) (b := 1100) (fun x hx => ?_) ?_ (isF_mk (.bare _ h) (fun x hx => by cases hx))).mono (Nat.le_refl _) (by decide)
  · rw [List.mem_singleton.mp hx]
    exact ⟨hs.1, Nat.le_of_eq hs.2.1⟩
  · show 4 + (lenB (.str wd) + 2 + 0) ≤ 1100
    have := hs.2.2
    omega
theorem fg_name {d : PyData} (h : isNameD d = true) (h2 : Neat 1000 2 d) : Fg 1100 3 d := by
  refine ⟨?_, h2.sh.ok, Nat.le_trans h2.dp (by decide), Nat.le_trans h2.sh.sz (by decide)⟩
  obtain ⟨a, b, rfl, h3, h4⟩ := name_form h
  exact isF_mk (.name a b h3 h4) (fun x hx => by cases hx)
theorem fg_rang {wd : Str} {r : PyData} (h : wd ∈ R4) (h1 : isRangeD r = true) (h2 : Neat 1000 2 r) : Fg 1100 3 (.tuple [.str wd, r]) := by
  have hs := wsh.1 wd (List.mem_append_left _ (List.mem_append_left _ (List.mem_append_right _ h)))
  refine tup_fg (k := 2) (fun x hx => ?_) ?_ (isF_mk (.rang _ _ h h1) (fun x hx => by cases hx))
  · simp only [List.mem_cons, List.not_mem_nil, or_false] at hx
    rcases hx with rfl | rfl
    · exact ⟨hs.1, by rw [hs.2.1]; decide⟩
    · exact ⟨h2.sh.ok, h2.dp⟩
  · show 4 + (lenB (.str wd) + 2 + (lenB r + 2 + 0)) ≤ 1100
    have := hs.2.2
    have := h2.sh.sz
    omega
theorem lenA_le {b : Nat} : ∀ {ds : List PyData}, (∀ x ∈ ds, lenB x ≤ b) → lenA ds ≤ ds.length * (b + 2)
  | [], _ => Nat.zero_le _
  | y :: r, h => by
    have h1 := h y List.mem_cons_self
    have h2 := lenA_le (b := b) (ds := r) fun x hx => h x (List.mem_cons_of_mem _ hx)
    show lenB y + 2 + lenA r ≤ (r.length + 1) * (b + 2)
    rw [Nat.add_mul, Nat.one_mul]
    omega
theorem fg_gath {wd : Str} {ds : List PyData} {b k m : Nat} (h : wd ∈ G3) (hd : ∀ x ∈ ds, Fg b k x) (hm : ds.length ≤ m) : Fg (76 + m * (b + 2)) (k + 2) (.tuple [.str wd, .tuple ds]) := by
  have hs := wsh.1 wd (List.mem_append_left _ (List.mem_append_left _ (List.mem_append_left _ h)))
  have h1 := lenA_le (b := b) (ds := ds) fun x hx => (hd x hx).sz
  have h2 := Nat.mul_le_mul_right (b + 2) hm
  refine tup_fg (k := k + 1) (fun x hx => ?_) ?_ (isF_mk (.gath _ _ h) (fun x hx => (hd x hx).f))
  · simp only [List.mem_cons, List.not_mem_nil, or_false] at hx
    rcases hx with rfl | rfl
    · exact ⟨hs.1, by rw [hs.2.1]; exact Nat.zero_le _⟩
    · refine ⟨show PyData.showableAll ds = true from showall_mk fun x hx => (hd x hx).ok, ?_⟩
      have := depth_mk (xs := ds) (k := k) fun x hx => (hd x hx).dp
      simp only [PyData.depth]
      omega
  · show 4 + (lenB (.str wd) + 2 + (4 + lenA ds + 2 + 0)) ≤ _
    have := hs.2.2
    omega
theorem fg_times {i : Int} {x : PyData} {b k : Nat} (h : isNumD (.int i) = true) (h2 : lenB (.int i) ≤ 60) (h3 : (PyData.int i).showable = true) (hx : Fg b k x) : Fg (b + 140) (k + 1) (.tuple [.str "times", .int i, x]) := by
  have hs := wsh.2 "times" (by simp only [List.mem_cons, true_or, or_true])
  refine tup_fg (fun y hy => ?_) ?_ (isF_mk (.times _ _ h) (fun y hy => by rw [List.mem_singleton.mp hy]; exact hx.f))
  · simp only [List.mem_cons, List.not_mem_nil, or_false] at hy
    rcases hy with rfl | rfl | rfl
    · exact ⟨hs.1, by rw [hs.2.1]; exact Nat.zero_le _⟩
    · exact ⟨h3, Nat.zero_le _⟩
    · exact ⟨hx.ok, hx.dp⟩
  · show 4 + (lenB (.str "times") + 2 + (lenB (.int i) + 2 + (lenB x + 2 + 0))) ≤ _
    have := hs.2.2
    have := hx.sz
    omega
theorem fg_over {x y : PyData} {b k : Nat} (hx : Fg b k x) (hy : Fg b k y) : Fg (2 * b + 80) (k + 1) (.tuple [.str "over", x, y]) := by
  have hs := wsh.2 "over" (by simp only [List.mem_cons, true_or, or_true])
  refine tup_fg (fun z hz => ?_) ?_ (isF_mk (.over _ _) (fun z hz => ?_))
  · simp only [List.mem_cons, List.not_mem_nil, or_false] at hz
    rcases hz with rfl | rfl | rfl
    · exact ⟨hs.1, by rw [hs.2.1]; exact Nat.zero_le _⟩
    · exact ⟨hx.ok, hx.dp⟩
    · exact ⟨hy.ok, hy.dp⟩
  · show 4 + (lenB (.str "over") + 2 + (lenB x + 2 + (lenB y + 2 + 0))) ≤ _
    have := hs.2.2
    have := hx.sz
    have := hy.sz
    omega
  · simp only [List.mem_cons, List.not_mem_nil, or_false] at hz
    rcases hz with rfl | rfl
    · exact hx.f
    · exact hy.f
theorem fg_case {sg : Str} {x y u v : PyData} {b k : Nat} (h : sg ∈ S6) (hx : Fg b k x) (hy : Fg b k y) (hu : Fg b k u) (hv : Fg b k v) : Fg (4 * b + 150) (k + 1) (.tuple [.str "case", x, .str sg, y, u, v]) := by
  have hs := wsh.2 "case" (by simp only [List.mem_cons, true_or, or_true])
  have hs2 := wsh.1 sg (List.mem_append_right _ h)
  have hsg : isSignD (.str sg) = true := List.any_eq_true.mpr ⟨sg, h, decide_eq_true rfl⟩
  refine tup_fg (fun z hz => ?_) ?_ (isF_mk (.case_ _ _ _ _ _ hsg) (fun z hz => ?_))
  · simp only [List.mem_cons, List.not_mem_nil, or_false] at hz
    rcases hz with rfl | rfl | rfl | rfl | rfl | rfl
    · exact ⟨hs.1, by rw [hs.2.1]; exact Nat.zero_le _⟩
    · exact ⟨hx.ok, hx.dp⟩
    · exact ⟨hs2.1, by rw [hs2.2.1]; exact Nat.zero_le _⟩
    · exact ⟨hy.ok, hy.dp⟩
    · exact ⟨hu.ok, hu.dp⟩
    · exact ⟨hv.ok, hv.dp⟩
  · show 4 + (lenB (.str "case") + 2 + (lenB x + 2 + (lenB (.str sg) + 2 + (lenB y + 2 + (lenB u + 2 + (lenB v + 2 + 0)))))) ≤ _
    have := hs.2.2
    have := hs2.2.2
    have := hx.sz
    have := hy.sz
    have := hu.sz
    have := hv.sz
    omega
  · simp only [List.mem_cons, List.not_mem_nil, or_false] at hz
    rcases hz with rfl | rfl | rfl | rfl
    · exact hx.f
    · exact hy.f
    · exact hu.f
    · exact hv.f
/-! ## the makers -/
def numC : Con := fun cs ω Φ => ∃ (n : Nat) (p : Addr), cs = [.raw (.ref p)] ∧ ω[n]? = some (p, bagP) ∧ ∀ i : Int, isNumD (.int i) = true → lenB (.int i) ≤ 60 → (PyData.int i).showable = true → Φ ω (.dat (.int i))
theorem r_number (T : Txt K mg) : Rdy P w K mg base 3 "_law_number" ["bag"] numC := by
  refine rdy T._law_number_ sc__law_number (fun cs ω Φ ⟨_, _, e, _⟩ => by rw [e]; rfl) fun X f cdv A outer s H E hX hr cs ω Φ ⟨n, p, e, hw, q⟩ => ?_
  subst hX; subst e
  refine b_one ?_
  refine s_ret ?_
  refine n_fn (r_one T) hr ?_
  refine na_cons ?_
  refine n_var 0 ?_
  refine na_cons ?_
  repeat walk_at "dx"
  refine n_sub ?_
  refine n_fn (r_take T) hr ?_
  refine na_cons ?_
  refine n_var 0 ?_
  refine na_cons ?_
  refine n_int ?_
  refine na_nil ?_
  refine ⟨n, p, _, rfl, hw, by decide, by decide, fun u _ _ => ?_⟩
  refine n_int ⟨_, _, rfl, rfl, na_nil ⟨_, rfl, rfl, na_nil ⟨n, p, _, rfl, hw, List.cons_ne_nil _ _, Nat.le_of_ble_eq_true rfl, fun d hd => ?_⟩⟩⟩
  simp only [List.mem_cons, List.not_mem_nil, or_false] at hd
  rcases hd with rfl | rfl | rfl | rfl | rfl | rfl | rfl | rfl | rfl | rfl
  · exact q _ (by decide +kernel) (by decide +kernel) (by decide +kernel)
  · exact q _ (by decide +kernel) (by decide +kernel) (by decide +kernel)
  · exact q _ (by decide +kernel) (by decide +kernel) (by decide +kernel)
  · exact q _ (by decide +kernel) (by decide +kernel) (by decide +kernel)
  · exact q _ (by decide +kernel) (by decide +kernel) (by decide +kernel)
  · exact q _ (by decide +kernel) (by decide +kernel) (by decide +kernel)
  · exact q _ (by decide +kernel) (by decide +kernel) (by decide +kernel)
  · exact q _ (by decide +kernel) (by decide +kernel) (by decide +kernel)
  · exact q _ (by decide +kernel) (by decide +kernel) (by decide +kernel)
  · have hs := small_shows (n := u - 100) (by omega) (by omega)
    refine q _ ?_ (Nat.le_trans hs.sz (by decide)) hs.ok
    show (decide (-1000000000000 ≤ u - 100) && decide (u - 100 ≤ 1000000000000)) = true
    rw [decide_eq_true (by omega), decide_eq_true (by omega)]; rfl
def leftI (its : List PyData) : Prop := ∃ i : Int, its = [.int i]
abbrev leftP : OwnP := sealP leftI
def bF : Nat → Nat
  | 0 => 1100
  | k + 1 => 4 * bF k + 150
theorem bF_ge : ∀ k, 1100 ≤ bF k
  | 0 => Nat.le_refl _
  | k + 1 => by have := bF_ge k; show 1100 ≤ 4 * bF k + 150; omega
def formC (N : Nat) : Con := fun cs ω Φ => ∃ (n m : Nat) (p p2 : Addr) (pl : Str) (kk : Int), cs = [.raw (.ref p), .dat (.str pl), .dat (.int kk), .raw (.ref p2)] ∧ ω[n]? = some (p, bagP) ∧ ω[m]? = some (p2, leftP) ∧ 0 ≤ kk ∧ kk < (N : Int) ∧ ∀ d, Fg (bF kk.toNat) (2 * kk.toNat + 3) d → Φ ω (.dat d)
theorem leaf_fg {d : PyData} {k : Nat} (h : Fg 1100 3 d) : Fg (bF k) (2 * k + 3) d := h.mono (bF_ge k) (by omega)
theorem r_form_step (T : Txt K mg) {M lv : Nat} (h4 : 4 ≤ lv) (R : Rdy P w K mg base lv "_law_formula" ["bag", "place", "deep", "left"] (formC M)) : Rdy P w K mg base (lv + 1) "_law_formula" ["bag", "place", "deep", "left"] (formC (M + 1)) := by
  refine rdy T._law_formula_ sc__law_formula (fun cs ω Φ ⟨_, _, _, _, _, _, e, _⟩ => by rw [e]; rfl) fun X f cdv A outer s H E hX hr cs ω Φ ⟨n, m, p, p2, pl, kk, e, hw, hm, k0, k1, q⟩ => ?_
  have hu := room_u64 hr
  subst hX; subst e
  have gs : ∀ jts, (ω.set m (p2, lstP jts))[m]? = some (p2, lstP jts) := fun _ => get_set hm
  -- kind = _law_take(bag, 13 if deep > 0 else 5)
  refine b_cons ?_
  refine s_set 4 sc__law_formula.nd ?_
  refine N.imp (Φ := fun ω1 c => ω1 = ω ∧ ∃ v : Int, c = .dat (.int v) ∧ 0 ≤ v ∧ v < 13 ∧ (5 ≤ v → 0 < kk)) ?_ ?_
  · refine n_fn (r_take T) hr (hjk := by omega) ?_
    refine na_cons ?_
    refine n_var 0 ?_
    refine na_cons ?_
    refine n_ifx (ΦT := fun _ _ => True) ?_
    refine nt_gt ?_
    refine n_var 2 ?_
    refine n_int ?_
    refine ⟨_, _, rfl, rfl, ?_⟩
    refine ite2 (fun h => ?_) (fun h => ?_)
    · refine n_int (na_nil ⟨n, p, _, rfl, hw, by decide, by decide, fun v v0 v1 => ⟨rfl, v, rfl, v0, v1, fun _ => of_decide_eq_true h⟩⟩)
    · refine n_int (na_nil ⟨n, p, _, rfl, hw, by decide, by decide, fun v v0 v1 => ⟨rfl, v, rfl, v0, by omega, fun _ => by omega⟩⟩)
  rintro ω1 c ⟨rfl, v, rfl, v0, v13, hv5⟩
  -- number
  refine b_cons (s_if (NT.imp (Φ := fun ω2 c => ω2 = ω1 ∧ (c = false → v ≠ 0)) ?_ ?_))
  · refine nt_or ?_
    refine nt_eq hu ?_
    refine n_var 4 ?_
    refine n_int ?_
    refine ⟨_, _, rfl, rfl, rfl, rfl, ?_⟩
    rw [eqv_ints]
    refine ite2 (fun h => ⟨rfl, fun z => by cases z⟩) (fun h => ?_)
    have hv0 : v ≠ 0 := fun z => h (by rw [z]; rfl)
    refine nt_and ?_
    refine nt_open hm ?_
    rintro its ⟨i, rfl⟩
    refine nt_eq hu ?_
    refine n_ixO (fun _ _ => rfl) 3 m rfl ?_
    refine n_int ?_
    refine ⟨_, 0, _, gs _, rfl, rfl, ?_⟩
    refine n_int ⟨_, _, rfl, rfl, rfl, rfl, _, ⟨i, rfl⟩, rfl, ?_⟩
    refine ite2 (fun h => ?_) (fun h => ⟨rfl, fun _ => hv0⟩)
    refine nt_lt ?_
    refine n_var 4 ?_
    refine n_int ?_
    exact ⟨_, _, rfl, rfl, rfl, fun _ => hv0⟩
  rintro ω2 c ⟨rfl, hc0⟩
  refine ite2 (fun _ => ?_) (fun h => ?_)
  · refine b_one ?_
    refine s_ret ?_
    refine n_tupU ?_
    refine na_cons ?_
    refine n_str ?_
    refine na_cons ?_
    refine n_fn (r_number T) hr (hjk := by omega) ?_
    refine na_cons ?_
    refine n_var 0 ?_
    refine na_nil ?_
    exact ⟨n, p, rfl, hw, fun i h1 h2 h3 => na_nil ⟨_, rfl, rfl, q _ (leaf_fg (fg_num h1 h2 h3))⟩⟩
  have hv0 := hc0 (Bool.eq_false_iff.mpr h)
  refine b_nil ?_
  refine b_cons ?_
  refine s_if ?_
  refine nt_eq hu ?_
  refine n_var 4 ?_
  refine n_int ?_
  refine ⟨_, _, rfl, rfl, rfl, rfl, ?_⟩
  rw [eqv_ints]
  refine ite2 (fun _ => ?_) (fun h => ?_)
  · refine b_one ?_
    refine s_ret ?_
    refine n_tupU ?_
    refine na_cons ?_
    refine n_str ?_
    refine na_nil ?_
    exact ⟨_, rfl, rfl, q _ (leaf_fg (fg_bare (by simp only [List.mem_cons, true_or, or_true])))⟩
  have hv1 : v ≠ 1 := fun z => h (by rw [z]; rfl)
  refine b_nil ?_
  -- name
  refine b_cons (s_if (NT.imp (Φ := fun ω3 c => ω3 = ω2 ∧ (c = false → ¬ v < 4)) ?_ ?_))
  · refine nt_or ?_
    refine nt_lt ?_
    refine n_var 4 ?_
    refine n_int ?_
    refine ⟨_, _, rfl, rfl, ?_⟩
    refine ite2 (fun h => ⟨rfl, fun z => by cases z⟩) (fun h => ?_)
    have hv4 : ¬ v < 4 := fun z => h (decide_eq_true z)
    refine nt_and ?_
    refine nt_eqS ?_
    refine n_var 1 ?_
    refine n_str ?_
    refine ⟨_, _, rfl, rfl, ?_⟩
    refine ite2 (fun h => ?_) (fun h => ⟨rfl, fun _ => hv4⟩)
    refine nt_eq hu ?_
    refine n_var 4 ?_
    refine n_int ?_
    exact ⟨_, _, rfl, rfl, rfl, rfl, rfl, fun _ => hv4⟩
  rintro ω3 c ⟨rfl, hc1⟩
  refine ite2 (fun _ => ?_) (fun h => ?_)
  · refine b_cons (s_open hm ?_)
    rintro its ⟨i, rfl⟩
    refine s_subO 3 m rfl ?_
    refine n_int ?_
    refine ⟨_, 0, i, gs _, rfl, by decide, by decide, rfl, ?_⟩
    refine n_int ⟨1, gs _, rfl, _, ⟨i - 1, rfl⟩, List.set_set .., ?_⟩
    refine b_one ?_
    refine s_ret ?_
    refine n_fn (r_name T) hr (hjk := by omega) ?_
    refine na_cons ?_
    refine n_var 0 ?_
    refine na_cons ?_
    refine n_var 1 ?_
    refine na_nil ?_
    exact ⟨n, p, pl, rfl, hw, fun d h1 h2 => q _ (leaf_fg (fg_name h1 h2))⟩
  have hv4 := hc1 (Bool.eq_false_iff.mpr h)
  refine b_nil ?_
  -- range
  refine b_cons (s_if (NT.imp (Φ := fun ω4 c => ω4 = ω3 ∧ (c = false → v ≠ 4)) ?_ ?_))
  · refine nt_or ?_
    refine nt_eq hu ?_
    refine n_var 4 ?_
    refine n_int ?_
    refine ⟨_, _, rfl, rfl, rfl, rfl, ?_⟩
    rw [eqv_ints]
    refine ite2 (fun h => ⟨rfl, fun z => by cases z⟩) (fun h => ?_)
    have hv5 : v ≠ 4 := fun z => h (by rw [z]; rfl)
    refine nt_w ?_
    refine nw_and ?_
    refine nt_open hm ?_
    rintro its ⟨i, rfl⟩
    refine nt_gt ?_
    refine n_ixO (fun _ _ => rfl) 3 m rfl ?_
    refine n_int ?_
    refine ⟨_, 0, _, gs _, rfl, rfl, ?_⟩
    refine n_int ⟨_, _, rfl, rfl, _, ⟨i, rfl⟩, rfl, ?_⟩
    refine ite2 (fun h => ?_) (fun h => ⟨rfl, fun _ => hv5⟩)
    refine nw_and ?_
    refine nt_neS ?_
    refine n_var 1 ?_
    refine n_str ?_
    refine ⟨_, _, rfl, rfl, ?_⟩
    refine ite2 (fun h => ?_) (fun h => ⟨rfl, fun _ => hv5⟩)
    refine nw_and ?_
    refine nt_eq hu ?_
    refine n_var 4 ?_
    refine n_int ?_
    refine ⟨_, _, rfl, rfl, rfl, rfl, ?_⟩
    refine ite2 (fun h => ?_) (fun h => ⟨rfl, fun _ => hv5⟩)
    refine nw_and1 ?_
    refine nt_gt ?_
    refine n_var 2 ?_
    refine n_int ?_
    exact ⟨_, _, rfl, rfl, rfl, fun _ => hv5⟩
  rintro ω4 c ⟨rfl, hc2⟩
  refine ite2 (fun _ => ?_) (fun h => ?_)
  · refine b_cons (s_open hm ?_)
    rintro its ⟨i, rfl⟩
    refine s_subO 3 m rfl ?_
    refine n_int ?_
    refine ⟨_, 0, i, gs _, rfl, by decide, by decide, rfl, ?_⟩
    refine n_int ⟨1, gs _, rfl, _, ⟨i - 1, rfl⟩, List.set_set .., ?_⟩
    refine b_one ?_
    refine s_ret ?_
    refine n_tupU ?_
    refine na_cons ?_
    refine n_fn (r_one T) hr (hjk := by omega) ?_
    refine na_cons ?_
    refine n_var 0 ?_
    refine na_cons ?_
    repeat walk_at "dx"
    refine ⟨n, p, _, rfl, hw, List.cons_ne_nil _ _, Nat.le_of_ble_eq_true rfl, fun x hx => ?_⟩
    have hx2 : ∃ wd ∈ R4, x = .str wd := by
      simp only [List.mem_cons, List.not_mem_nil, or_false] at hx
      rcases hx with rfl | rfl | rfl | rfl | rfl
      · exact ⟨"total", by simp only [List.mem_cons, true_or, or_true], rfl⟩
      · exact ⟨"total", by simp only [List.mem_cons, true_or, or_true], rfl⟩
      · exact ⟨"many", by simp only [List.mem_cons, true_or, or_true], rfl⟩
      · exact ⟨"top", by simp only [List.mem_cons, true_or, or_true], rfl⟩
      · exact ⟨"low", by simp only [List.mem_cons, true_or, or_true], rfl⟩
    obtain ⟨wd, hwd, rfl⟩ := hx2
    refine na_cons ?_
    refine n_fn (r_range T) hr (hjk := by omega) ?_
    refine na_cons ?_
    refine n_var 0 ?_
    refine na_cons ?_
    refine n_var 1 ?_
    refine na_nil ?_
    exact ⟨n, p, pl, rfl, hw, fun d h1 h2 => na_nil ⟨_, rfl, rfl, q _ (leaf_fg (fg_rang hwd h1 h2))⟩⟩
  have hv5' := hc2 (Bool.eq_false_iff.mpr h)
  refine b_nil ?_
  have h5 : 5 ≤ v := by omega
  have hk := hv5 h5
  obtain ⟨j, rfl⟩ : ∃ j : Nat, kk = ((j + 1 : Nat) : Int) := ⟨(kk - 1).toNat, by omega⟩
  have ej : (((j + 1 : Nat) : Int)).toNat = j + 1 := rfl
  rw [ej] at q
  have ej2 : (((j + 1 : Nat) : Int) - 1).toNat = j := by omega
  have bj := bF_ge j
  refine b_cons ?_
  refine s_if ?_
  refine nt_lt ?_
  refine n_var 4 ?_
  refine n_int ?_
  refine ⟨_, _, rfl, rfl, ?_⟩
  refine ite2 (fun h => ?_) (fun h => ?_)
  · have h9 : v < 9 := of_decide_eq_true h
    refine b_cons ?_
    refine s_lcR 5 6 rfl sc__law_formula.nd T.z_range (blkOk_by (N := N__law_formula) (sc := defScope s__law_formula) (by decide +kernel)) ?_ (fun s' H' C cl fp => pg_name (i := 6) sc__law_formula.nd rfl (Or.inl rfl))
    refine n_fn (r_take T) hr (hjk := by omega) ?_
    refine na_cons ?_
    refine n_var 0 ?_
    refine na_cons ?_
    refine n_int ?_
    refine na_nil ?_
    refine ⟨n, p, _, rfl, hw, by decide, by decide, fun u u0 u1 => ⟨u, rfl, by omega, by omega, fun i ω5 acc => ω5 = ω4 ∧ acc.length = i ∧ ∀ x ∈ acc, Fg (bF j) (2 * j + 3) x, ⟨rfl, rfl, by simp⟩, ?_, ?_⟩⟩
    · rintro i ω5 acc D hi ⟨rfl, hl, hacc⟩ s' H' C cl fp
      refine n_fn R hr (hjk := Nat.le_refl _) ?_
      refine na_cons ?_
      refine n_var 0 ?_
      refine na_cons ?_
      refine n_var 1 ?_
      refine na_cons ?_
      refine n_sub ?_
      refine n_var 2 ?_
      refine n_int ?_
      refine ⟨_, _, rfl, rfl, ?_⟩
      refine na_cons ?_
      refine n_var 3 ?_
      refine na_nil ?_
      refine ⟨n + 1, m + 1, p, p2, pl, _, rfl, hw, hm, by omega, by omega, fun d hd => ⟨d, rfl, by omega, _, rfl, rfl, by rw [List.length_append, hl]; rfl, ?_⟩⟩
      rw [ej2] at hd
      intro y hy
      rcases List.mem_append.mp hy with hy | hy
      · exact hacc y hy
      · rw [List.mem_singleton.mp hy]; exact hd
    rintro ω5 ds ⟨rfl, hl, hds⟩
    have hlen : ds.length ≤ 3 := by omega
    refine b_one ?_
    refine s_ret ?_
    refine n_tupU ?_
    refine na_cons ?_
    refine n_ixl (fun _ _ => rfl) ?_
    repeat walk_at "dx"
    refine n_sub ?_
    refine n_var 4 ?_
    refine n_int ?_
    refine ⟨_, _, rfl, rfl, ?_⟩
    obtain ⟨x, h1, h2⟩ := atI_in (ds := [PyData.str "sum", .str "sum", .str "most", .str "least"]) (k := v - 5) (by omega) (by show v - 5 < 4; omega)
    have hx := List.mem_of_getElem? h2
    have hx2 : ∃ wd ∈ G3, x = .str wd := by
      simp only [List.mem_cons, List.not_mem_nil, or_false] at hx
      rcases hx with rfl | rfl | rfl | rfl
      · exact ⟨"sum", by simp only [List.mem_cons, true_or, or_true], rfl⟩
      · exact ⟨"sum", by simp only [List.mem_cons, true_or, or_true], rfl⟩
      · exact ⟨"most", by simp only [List.mem_cons, true_or, or_true], rfl⟩
      · exact ⟨"least", by simp only [List.mem_cons, true_or, or_true], rfl⟩
    obtain ⟨wd, hwd, rfl⟩ := hx2
    refine ⟨_, _, _, rfl, rfl, h1, ?_⟩
    refine na_cons ?_
    refine n_tupleOf T.z_tuple ?_
    refine n_var 5 ?_
    refine ⟨ds, .inl rfl, na_nil ⟨_, rfl, rfl, q _ ((fg_gath hwd hds hlen).mono ?_ (by omega))⟩⟩
    show 76 + 3 * (bF j + 2) ≤ 4 * bF j + 150
    omega
  refine b_nil ?_
  refine b_cons ?_
  refine s_if ?_
  refine nt_lt ?_
  refine n_var 4 ?_
  refine n_int ?_
  refine ⟨_, _, rfl, rfl, ?_⟩
  refine ite2 (fun h => ?_) (fun h => ?_)
  · refine b_one ?_
    refine s_ret ?_
    refine n_tupU ?_
    refine na_cons ?_
    refine n_str ?_
    refine na_cons ?_
    refine n_fn (r_number T) hr (hjk := by omega) ?_
    refine na_cons ?_
    refine n_var 0 ?_
    refine na_nil ?_
    refine ⟨n, p, rfl, hw, fun i g1 g2 g3 => ?_⟩
    refine na_cons ?_
    refine n_fn R hr (hjk := Nat.le_refl _) ?_
    refine na_cons ?_
    refine n_var 0 ?_
    refine na_cons ?_
    refine n_var 1 ?_
    refine na_cons ?_
    refine n_sub ?_
    refine n_var 2 ?_
    refine n_int ?_
    refine ⟨_, _, rfl, rfl, ?_⟩
    refine na_cons ?_
    refine n_var 3 ?_
    refine na_nil ?_
    refine ⟨n, m, p, p2, pl, _, rfl, hw, hm, by omega, by omega, fun d hd => na_nil ⟨_, rfl, rfl, q _ ?_⟩⟩
    rw [ej2] at hd
    exact (fg_times g1 g2 g3 hd).mono (show bF j + 140 ≤ 4 * bF j + 150 by omega) (by omega)
  refine b_nil ?_
  refine b_cons ?_
  refine s_par 7 8 rfl sc__law_formula.nd ?_
  refine na_cons ?_
  refine n_fn R hr (hjk := Nat.le_refl _) ?_
  refine na_cons ?_
  refine n_var 0 ?_
  refine na_cons ?_
  refine n_var 1 ?_
  refine na_cons ?_
  refine n_sub ?_
  refine n_var 2 ?_
  refine n_int ?_
  refine ⟨_, _, rfl, rfl, ?_⟩
  refine na_cons ?_
  refine n_var 3 ?_
  refine na_nil ?_
  refine ⟨n, m, p, p2, pl, _, rfl, hw, hm, by omega, by omega, fun d1 hd1 => ?_⟩
  refine na_cons ?_
  refine n_fn R hr (hjk := Nat.le_refl _) ?_
  refine na_cons ?_
  refine n_var 0 ?_
  refine na_cons ?_
  refine n_var 1 ?_
  refine na_cons ?_
  refine n_sub ?_
  refine n_var 2 ?_
  refine n_int ?_
  refine ⟨_, _, rfl, rfl, ?_⟩
  refine na_cons ?_
  refine n_var 3 ?_
  refine na_nil ?_
  refine ⟨n, m, p, p2, pl, _, rfl, hw, hm, by omega, by omega, fun d2 hd2 => na_nil ⟨_, _, rfl, ?_⟩⟩
  rw [ej2] at hd1 hd2
  refine b_cons ?_
  refine s_if ?_
  refine nt_eq hu ?_
  refine n_var 4 ?_
  refine n_int ?_
  refine ⟨_, _, rfl, rfl, rfl, rfl, ?_⟩
  refine ite2 (fun h => ?_) (fun h => ?_)
  · refine b_one ?_
    refine s_ret ?_
    refine n_tupU ?_
    refine na_cons ?_
    refine n_str ?_
    refine na_cons ?_
    refine n_var 7 ?_
    refine na_cons ?_
    refine n_var 8 ?_
    refine na_nil ?_
    exact ⟨_, rfl, rfl, q _ ((fg_over hd1 hd2).mono (show 2 * bF j + 80 ≤ 4 * bF j + 150 by omega) (by omega))⟩
  refine b_nil ?_
  refine b_cons ?_
  refine s_par 9 10 rfl sc__law_formula.nd ?_
  refine na_cons ?_
  refine n_fn R hr (hjk := Nat.le_refl _) ?_
  refine na_cons ?_
  refine n_var 0 ?_
  refine na_cons ?_
  refine n_var 1 ?_
  refine na_cons ?_
  refine n_sub ?_
  refine n_var 2 ?_
  refine n_int ?_
  refine ⟨_, _, rfl, rfl, ?_⟩
  refine na_cons ?_
  refine n_var 3 ?_
  refine na_nil ?_
  refine ⟨n, m, p, p2, pl, _, rfl, hw, hm, by omega, by omega, fun d3 hd3 => ?_⟩
  refine na_cons ?_
  refine n_fn R hr (hjk := Nat.le_refl _) ?_
  refine na_cons ?_
  refine n_var 0 ?_
  refine na_cons ?_
  refine n_var 1 ?_
  refine na_cons ?_
  refine n_sub ?_
  refine n_var 2 ?_
  refine n_int ?_
  refine ⟨_, _, rfl, rfl, ?_⟩
  refine na_cons ?_
  refine n_var 3 ?_
  refine na_nil ?_
  refine ⟨n, m, p, p2, pl, _, rfl, hw, hm, by omega, by omega, fun d4 hd4 => na_nil ⟨_, _, rfl, ?_⟩⟩
  rw [ej2] at hd3 hd4
  refine b_one ?_
  refine s_ret ?_
  refine n_tupU ?_
  refine na_cons ?_
  refine n_str ?_
  refine na_cons ?_
  refine n_var 7 ?_
  refine na_cons ?_
  refine n_fn (r_one T) hr (hjk := by omega) ?_
  refine na_cons ?_
  refine n_var 0 ?_
  refine na_cons ?_
  repeat walk_at "dx"
  refine ⟨n, p, _, rfl, hw, List.cons_ne_nil _ _, Nat.le_of_ble_eq_true rfl, fun x hx => ?_⟩
  have hx2 : ∃ sg ∈ S6, x = .str sg := by
    obtain ⟨sg, h1, h2⟩ := List.mem_map.mp (show x ∈ S6.map PyData.str from hx)
    exact ⟨sg, h1, h2.symm⟩
  obtain ⟨sg, hsg, rfl⟩ := hx2
  refine na_cons ?_
  refine n_var 8 ?_
  refine na_cons ?_
  refine n_var 9 ?_
  refine na_cons ?_
  refine n_var 10 ?_
  refine na_nil ?_
  exact ⟨_, rfl, rfl, q _ ((fg_case hsg hd1 hd2 hd3 hd4).mono (Nat.le_refl _) (by omega))⟩
theorem r_form (T : Txt K mg) : ∀ N : Nat, Rdy P w K mg base (4 + N) "_law_formula" ["bag", "place", "deep", "left"] (formC N)
  | 0 => rdy (k := 3) T._law_formula_ (sc := sc__law_formula) (fun cs ω Φ ⟨_, _, _, _, _, _, _, _, _, h0, h1, _⟩ => absurd h1 (by omega)) fun X f cdv A outer s H E hX hr cs ω Φ ⟨_, _, _, _, _, _, _, _, _, h0, h1, _⟩ => absurd h1 (by omega)
  | N + 1 => r_form_step T (Nat.le_add_right 4 N) (r_form T N)
def wholeC : Con := fun cs ω Φ => ∃ (n : Nat) (p : Addr) (pl : Str), cs = [.raw (.ref p), .dat (.str pl)] ∧ ω[n]? = some (p, bagP) ∧ ∀ d, Fg 300000 11 d → Φ ω (.dat d)
theorem bF_4 : bF 4 = 294350 := by decide
theorem bF_mono : ∀ {i j : Nat}, i ≤ j → bF i ≤ bF j := by
  intro i j h
  induction h with
  | refl => exact Nat.le_refl _
  | @step m _ ih => exact Nat.le_trans ih (by show bF m ≤ 4 * bF m + 150; omega)
theorem r_whole_formula (T : Txt K mg) : Rdy P w K mg base 10 "_law_whole_formula" ["bag", "place"] wholeC := by
  refine rdy T._law_whole_formula_ sc__law_whole_formula (fun cs ω Φ ⟨_, _, _, e, _⟩ => by rw [e]; rfl) fun X f cdv A outer s H E hX hr cs ω Φ ⟨n, p, pl, e, hw, q⟩ => ?_
  have hu := room_u64 hr
  subst hX; subst e
  refine b_cons ?_
  refine s_set 2 sc__law_whole_formula.nd ?_
  refine n_fn (r_take T) hr ?_
  refine na_cons ?_
  refine n_var 0 ?_
  refine na_cons ?_
  refine n_int ?_
  refine na_nil ?_
  refine ⟨n, p, _, rfl, hw, by decide, by decide, fun v _ _ => ?_⟩
  refine b_cons (s_if (NT.imp (Φ := fun ω1 c => ω1 = ω) ?_ ?_))
  · refine nt_and ?_
    refine nt_neS ?_
    refine n_var 1 ?_
    refine n_str ?_
    refine ⟨_, _, rfl, rfl, ?_⟩
    refine ite2 (fun h => ?_) (fun h => rfl)
    refine nt_lt ?_
    refine n_var 2 ?_
    refine n_int ?_
    exact ⟨_, _, rfl, rfl, rfl⟩
  rintro ω1 c rfl
  refine ite2 (fun _ => ?_) (fun _ => ?_)
  · refine b_one ?_
    refine s_ret ?_
    refine n_tupU ?_
    refine na_cons ?_
    refine n_str ?_
    refine na_nil ?_
    exact ⟨_, rfl, rfl, q _ ((fg_bare (by simp only [List.mem_cons, true_or, or_true])).mono (by decide) (by decide))⟩
  refine b_nil ?_
  refine b_cons ?_
  refine s_if ?_
  refine nt_eq hu ?_
  refine n_var 2 ?_
  refine n_int ?_
  refine ⟨_, _, rfl, rfl, rfl, rfl, ?_⟩
  refine ite2 (fun _ => ?_) (fun _ => ?_)
  · refine b_one ?_
    refine s_ret ?_
    refine n_tupU ?_
    refine na_cons ?_
    refine n_fn (r_one T) hr ?_
    refine na_cons ?_
    refine n_var 0 ?_
    refine na_cons ?_
    repeat walk_at "dx"
    refine ⟨n, p, _, rfl, hw, List.cons_ne_nil _ _, Nat.le_of_ble_eq_true rfl, fun x hx => ?_⟩
    have hx2 : ∃ wd ∈ G3, x = .str wd := by
      simp only [List.mem_cons, List.not_mem_nil, or_false] at hx
      rcases hx with rfl | rfl | rfl | rfl
      · exact ⟨"sum", by simp only [List.mem_cons, true_or, or_true], rfl⟩
      · exact ⟨"sum", by simp only [List.mem_cons, true_or, or_true], rfl⟩
      · exact ⟨"most", by simp only [List.mem_cons, true_or, or_true], rfl⟩
      · exact ⟨"least", by simp only [List.mem_cons, true_or, or_true], rfl⟩
    obtain ⟨wd, hwd, rfl⟩ := hx2
    refine na_cons ?_
    refine n_tupleOf T.z_tuple ?_
    refine n_lcR 3 rfl sc__law_whole_formula.nd T.z_range (blkOk_by (N := N__law_whole_formula) (sc := defScope s__law_whole_formula) (by decide +kernel)) ?_ (fun s' H' C cl fp => pg_name (i := 3) sc__law_whole_formula.nd rfl (Or.inl rfl))
    refine n_int ⟨6, rfl, by decide, by decide, fun i ω5 acc => ω5 = ω1 ∧ acc.length = i ∧ ∀ x ∈ acc, Fg 1100 3 x, ⟨rfl, rfl, by simp⟩, ?_, ?_⟩
    · rintro i ω5 acc D hi ⟨rfl, hl, hacc⟩ s' H' C cl fp
      have hi6 : i < 6 := hi
      refine n_fn (r_name T) hr ?_
      refine na_cons ?_
      refine n_var 0 ?_
      refine na_cons ?_
      refine n_var 1 ?_
      refine na_nil ?_
      refine ⟨n + 1, p, pl, rfl, hw, fun d h1 h2 => ⟨d, rfl, by omega, _, rfl, rfl, by rw [List.length_append, hl]; rfl, ?_⟩⟩
      intro y hy
      rcases List.mem_append.mp hy with hy | hy
      · exact hacc y hy
      · rw [List.mem_singleton.mp hy]; exact fg_name h1 h2
    rintro ω5 ds ⟨rfl, hl, hds⟩
    refine ⟨ds, .inl rfl, na_nil ⟨_, rfl, rfl, q _ ((fg_gath (m := 6) hwd hds (Nat.le_of_eq hl)).mono (by decide) (by decide))⟩⟩
  refine b_nil ?_
  refine b_one ?_
  refine s_ret ?_
  refine n_drop ?_
  refine n_fn (r_form T 5) hr ?_
  refine na_cons ?_
  refine n_var 0 ?_
  refine na_cons ?_
  refine n_var 1 ?_
  refine na_cons ?_
  refine n_fn (r_take T) hr ?_
  refine na_cons ?_
  refine n_var 0 ?_
  refine na_cons ?_
  refine n_int ?_
  refine na_nil ?_
  refine ⟨n, p, _, rfl, hw, by decide, by decide, fun u u0 u1 => ?_⟩
  refine na_cons ?_
  refine n_seal leftI ?_
  refine n_lstOU ?_
  refine na_cons ?_
  refine n_fn (r_take T) hr ?_
  refine na_cons ?_
  refine n_var 0 ?_
  refine na_cons ?_
  refine n_int ?_
  refine na_nil ?_
  refine ⟨n, p, _, rfl, hw, by decide, by decide, fun u2 _ _ => na_nil ⟨_, rfl, rfl, fun p2 => ⟨p2, _, _, rfl, ⟨u2, rfl⟩, na_nil ⟨n + 1, 0, p, p2, pl, u, rfl, hw, rfl, u0, by omega, fun d hd => ⟨p2, _, _, rfl, q d (hd.mono ?_ (by omega))⟩⟩⟩⟩⟩
  have h1 : u.toNat ≤ 4 := by omega
  have := bF_mono h1
  rw [bF_4] at this
  omega
end

section
variable {P : Program} {w : World} {K : PySem.W.Frag} {mg : Str → Option Value} {base : Heap}
theorem bIf {b : Bool} {A B : Prop} (h : b = true) (a : A) : if b = true then A else B := by rw [if_pos h]; exact a
theorem bIfn {b : Bool} {A B : Prop} (h : b = false) (a : B) : if b = true then A else B := by rw [if_neg (by rw [h]; decide)]; exact a
/-! ## sheets of anything -/
def itm (d : PyData) : List PyData := (seqD d).getD []
def colB (d : PyData) : Bool := match seqD d with
  | some xs => decide (xs.length = 3) && xs.all isFd
  | none => false
def areD (d : PyData) : Bool := match seqD d with
  | some ds => ds.all colB
  | none => false
theorem seq_depth {d x : PyData} {ds : List PyData} (h : seqD d = some ds) (hx : x ∈ ds) : x.depth < d.depth := by
  cases d <;> cases h
  · exact Nat.lt_succ_of_le (depth_mem hx)
  · exact Nat.lt_succ_of_le (depth_mem hx)
/-- what may be handed to a Sheet -/
structure Hand (d : PyData) : Prop where
  dp : d.depth < 25
  len : ∀ ds, seqD d = some ds → ds.length ≤ 90000
  fo : ∀ ds, seqD d = some ds → ∀ c ∈ ds, ∀ xs, seqD c = some xs → ∀ x ∈ xs, lenB x ≤ 1900000 ∧ (isFd x = true → FOk x)
theorem take_all {f : PyData → Bool} {ds : List PyData} {i : Nat} {d : PyData} (h : ds[i]? = some d) : (ds.take (i + 1)).all f = ((ds.take i).all f && f d) := by
  rw [List.take_add_one, h, List.all_append]
  show (_ && (f d && true)) = _
  rw [Bool.and_true]
theorem all_mem {f : PyData → Bool} {ds : List PyData} {d : PyData} (h : d ∈ ds) (hf : f d = false) : ds.all f = false := by
  cases z : ds.all f
  · rfl
  · rw [List.all_eq_true.mp z d h] at hf
    cases hf
def areCC : Con := fun cs ω Φ => ∃ d, cs = [.dat d] ∧ d.depth < 25 ∧ Φ ω (.dat (.bool (areD d)))
theorem len3 {xs : List PyData} : (!PyData.eqv (.int (xs.length : Int)) (.int 3)) = !decide (xs.length = 3) := by
  rw [eqv_ints]
  congr 1
  by_cases h : xs.length = 3
  · rw [decide_eq_true h, h]; rfl
  · rw [decide_eq_false h]
    exact beq_eq_false_iff_ne.mpr (by omega)
theorem r_are_columns (T : Txt K mg) : Rdy P w K mg base 60 "_are_columns" ["things"] areCC := by
  refine rdy (k := 59) T._are_columns_ sc__are_columns (fun cs ω Φ ⟨_, e, _⟩ => by rw [e]; rfl) fun X f cdv A outer s H E hX hr cs ω Φ ⟨d, e, hdp, q⟩ => ?_
  have hu := room_u64 hr
  subst hX; subst e
  refine b_cons ?_
  refine s_if ?_
  refine nt_not ?_
  refine nt_val ?_
  refine n_isi2 .list .tuple T.z_isinstance T.z_list T.z_tuple ?_
  refine n_var 0 ?_
  refine ⟨d, rfl, _, rfl, ?_⟩
  rw [seq_isi]
  cases hs : seqD d with
  | none =>
    refine bIf rfl ?_
    refine b_one ?_
    refine s_ret ?_
    refine n_bl ?_
    rw [areD, hs] at q
    exact q
  | some ds =>
    rw [areD, hs] at q
    refine bIfn rfl (b_nil ?_)
    refine b_cons ?_
    refine s_forA 1 d hs PassesOwn.never rfl sc__are_columns.nd ?_
    refine n_var 0 ?_
    refine ⟨rfl, fun i ω2 δ2 => ω2 = ω ∧ (ds.take i).all colB = true ∧ ∃ x1 x2, δ2 = [some (.dat d), x1, x2], ⟨rfl, rfl, _, _, rfl⟩, ?_, ?_⟩
    · rintro i ω2 δ2 d0 hd ⟨rfl, ha, x1, x2, rfl⟩
      have hm := List.mem_of_getElem? hd
      have hd0 := seq_depth hs hm
      have no : colB d0 = false → Φ ω2 (.dat (.bool false)) := fun z => by
        have q' := q
        dsimp only at q'
        rw [all_mem hm z] at q'
        exact q'
      refine b_cons ?_
      refine s_if ?_
      refine nt_w ?_
      refine nw_or ?_
      refine nt_not ?_
      refine nt_val ?_
      refine n_isi2 .list .tuple T.z_isinstance T.z_list T.z_tuple ?_
      refine n_var 1 ?_
      refine ⟨d0, rfl, _, rfl, ?_⟩
      rw [seq_isi]
      cases hx : seqD d0 with
      | none =>
        refine bIf rfl ?_
        refine bIf rfl ?_
        refine b_one ?_
        refine s_ret ?_
        refine n_bl ?_
        exact no (by rw [colB, hx])
      | some xs =>
        refine bIfn rfl ?_
        refine nw_or1 ?_
        refine nt_ne hu ?_
        refine n_len T.z_len ?_
        refine n_var 1 ?_
        refine ⟨d0, _, rfl, seq_len hx, ?_⟩
        refine n_len T.z_len ?_
        refine n_const T.c_PLACES ?_
        refine ⟨_, _, rfl, rfl, ?_⟩
        refine ⟨_, _, rfl, rfl, rfl, rfl, ?_⟩
        show if (!PyData.eqv (.int (xs.length : Int)) (.int 3)) = true then _ else _
        rw [len3]
        by_cases h3 : xs.length = 3
        rotate_left
        · refine bIf (by rw [decide_eq_false h3]; rfl) ?_
          refine b_one ?_
          refine s_ret ?_
          refine n_bl ?_
          exact no (by rw [colB, hx]; show (decide (xs.length = 3) && _) = false; rw [decide_eq_false h3]; rfl)
        refine bIfn (by rw [decide_eq_true h3]; rfl) (b_nil ?_)
        refine b_one ?_
        refine s_forA 2 d0 hx PassesOwn.never rfl sc__are_columns.nd ?_
        refine n_var 1 ?_
        refine ⟨rfl, fun j ω4 δ4 => ω4 = ω2 ∧ (xs.take j).all isFd = true ∧ ∃ x1 x2, δ4 = [some (.dat d), x1, x2], ⟨rfl, rfl, _, _, rfl⟩, ?_, ?_⟩
        · rintro j ω3 δ3 e he ⟨rfl, hb, y1, y2, rfl⟩
          have hem := List.mem_of_getElem? he
          have hed := seq_depth hx hem
          refine b_one ?_
          refine s_if ?_
          refine nt_not ?_
          refine nt_val ?_
          refine n_fn (r_isF T 25) hr ?_
          refine na_cons ?_
          refine n_var 2 ?_
          refine na_nil ?_
          refine ⟨e, rfl, by omega, _, rfl, ?_⟩
          cases hF : isFd e
          · refine bIf rfl ?_
            refine b_one ?_
            refine s_ret ?_
            refine n_bl ?_
            exact no (by rw [colB, hx]; show (decide (xs.length = 3) && xs.all isFd) = false; rw [all_mem hem hF, Bool.and_false])
          · exact bIfn rfl (b_nil ⟨rfl, by rw [take_all he, hb, hF]; rfl, _, _, rfl⟩)
        · rintro ω4 δ4 ⟨rfl, hb, y1, y2, rfl⟩
          rw [List.take_length] at hb
          refine ⟨rfl, ?_, _, _, rfl⟩
          rw [take_all hd, ha, colB, hx]
          show (true && (decide (xs.length = 3) && xs.all isFd)) = true
          rw [decide_eq_true h3, hb]
          rfl
    · rintro ω2 δ2 ⟨rfl, ha, x1, x2, rfl⟩
      rw [List.take_length] at ha
      dsimp only at q
      rw [ha] at q
      refine b_one ?_
      refine s_ret ?_
      refine n_bl ?_
      exact q
/-! ## the first formula that does not fit -/
def badIn : List PyData → Option Str
  | [a, b, c] => if fitD "head" a = true then (if fitD "body" b = true then (if fitD "foot" c = true then none else some "foot") else some "body") else some "head"
  | _ => none
def misfit : List PyData → Nat → Option (Nat × Str)
  | [], _ => none
  | c :: r, i => match badIn (itm c) with
    | some pl => some (i, pl)
    | none => misfit r (i + 1)
theorem misfit_at : ∀ {ds : List PyData} {i k : Nat} {c : PyData} {pl : Str}, (∀ x ∈ ds.take i, badIn (itm x) = none) → ds[i]? = some c → badIn (itm c) = some pl → misfit ds k = some (k + i, pl)
  | [], _, _, _, _, _, h, _ => by simp at h
  | x :: r, 0, k, c, pl, _, h, hb => by
    cases h
    simp [misfit, hb]
  | x :: r, i + 1, k, c, pl, ha, h, hb => by
    have h0 := ha x (by simp)
    have := misfit_at (ds := r) (i := i) (k := k + 1) (c := c) (pl := pl) (fun y hy => ha y (by simp [hy])) (by simpa using h) hb
    rw [misfit, h0]
    simp only
    rw [this]
    congr 2
    omega
theorem misfit_none : ∀ {ds : List PyData} {k : Nat}, (∀ x ∈ ds, badIn (itm x) = none) → misfit ds k = none
  | [], _, _ => rfl
  | x :: r, k, h => by
    rw [misfit, h x List.mem_cons_self]
    exact misfit_none fun y hy => h y (List.mem_cons_of_mem _ hy)
/-- how far a column fits, by its places in order -/
structure Fit3 (a b c : PyData) (j : Nat) : Prop where
  h : 1 ≤ j → fitD "head" a = true
  b : 2 ≤ j → fitD "body" b = true
  f : 3 ≤ j → fitD "foot" c = true
theorem Fit3.zero {a b c : PyData} : Fit3 a b c 0 := ⟨fun h => by omega, fun h => by omega, fun h => by omega⟩
theorem Fit3.step {a b c d e : PyData} {j : Nat} (F : Fit3 a b c j) (h : ([.str "head", .str "body", .str "foot"] : List PyData)[j]? = some d) (h2 : ([a, b, c] : List PyData)[j]? = some e) :
    ∃ pl ∈ P3, d = .str pl ∧ (e = a ∨ e = b ∨ e = c) ∧ (fitD pl e = true → Fit3 a b c (j + 1)) ∧ (fitD pl e = false → badIn [a, b, c] = some pl) := by
  match j, h, h2 with
  | 0, h, h2 =>
    cases h; cases h2
    exact ⟨"head", by simp only [List.mem_cons, true_or, or_true], rfl, .inl rfl, fun z => ⟨fun _ => z, fun h => by omega, fun h => by omega⟩, fun z => by rw [badIn, if_neg (by rw [z]; decide)]⟩
  | 1, h, h2 =>
    cases h; cases h2
    have h1 := F.h (Nat.le_refl _)
    exact ⟨"body", by simp only [List.mem_cons, true_or, or_true], rfl, .inr (.inl rfl), fun z => ⟨fun _ => h1, fun _ => z, fun h => by omega⟩, fun z => by rw [badIn, if_pos h1, if_neg (by rw [z]; decide)]⟩
  | 2, h, h2 =>
    cases h; cases h2
    have h1 := F.h (by omega)
    have h3 := F.b (Nat.le_refl _)
    exact ⟨"foot", by simp only [List.mem_cons, true_or, or_true], rfl, .inr (.inr rfl), fun z => ⟨fun _ => h1, fun _ => h3, fun _ => z⟩, fun z => by rw [badIn, if_pos h1, if_pos h3, if_neg (by rw [z]; decide)]⟩
theorem Fit3.all {a b c : PyData} (F : Fit3 a b c 3) : badIn [a, b, c] = none := by
  rw [badIn, if_pos (F.h (by omega)), if_pos (F.b (by omega)), if_pos (F.f (by omega))]
theorem col_three {d : PyData} (h : colB d = true) : ∃ a b c, seqD d = some [a, b, c] ∧ isFd a = true ∧ isFd b = true ∧ isFd c = true := by
  rw [colB] at h
  cases hx : seqD d with
  | none => rw [hx] at h; cases h
  | some xs =>
    rw [hx] at h
    have h' : (decide (xs.length = 3) && xs.all isFd) = true := h
    rw [Bool.and_eq_true] at h'
    match xs, of_decide_eq_true h'.1 with
    | [a, b, c], _ =>
      have := List.all_eq_true.mp h'.2
      exact ⟨a, b, c, rfl, this a (by simp), this b (by simp), this c (by simp)⟩
def shD (mg : Str → Option Value) (cols : List PyData) : PyData := insD (clsA mg "Sheet") [(.str "_columns", .list cols)]
def rowsD (ds : List PyData) : List PyData := ds.map fun c => .tuple (itm c)
def initX (mg : Str → Option Value) : ConX := fun cs ω Φ Ψ => ∃ (p : Addr) (d : PyData) (ω0 : Ow), cs = [.raw (.ref p), .dat d] ∧ ω = (p, insP (clsA mg "Sheet") []) :: ω0 ∧ Hand d ∧
  (areD d = false → ∀ dd, Ψ ((dd, xdP [(.str "place", .int 0)]) :: (p, insP (clsA mg "Sheet") []) :: ω0) (clsA mg "Wrong") dd) ∧
  (areD d = true → ∀ (i : Nat) pl, misfit (itm d) 0 = some (i, pl) → ∀ fs dd, Ψ ((dd, xdP [(.str "place", .tuple [.int (i : Int), .str pl])]) :: (p, insP (clsA mg "Sheet") fs) :: ω0) (clsA mg "NoFit") dd) ∧
  (areD d = true → misfit (itm d) 0 = none → Φ ((p, insP (clsA mg "Sheet") [(.str "_columns", .list (rowsD (itm d)))]) :: ω0) (.dat .none))
theorem are_seq {d : PyData} (h : areD d = true) : seqD d = some (itm d) ∧ ∀ c ∈ itm d, colB c = true := by
  rw [areD] at h
  unfold itm
  cases hs : seqD d with
  | none => rw [hs] at h; cases h
  | some ds =>
    rw [hs] at h
    exact ⟨rfl, List.all_eq_true.mp h⟩
theorem rows_take {ds : List PyData} {i : Nat} {c : PyData} (h : ds[i]? = some c) : rowsD (ds.take (i + 1)) = rowsD (ds.take i) ++ [.tuple (itm c)] := by
  unfold rowsD
  rw [List.take_add_one, h, List.map_append]
  rfl
theorem mem_take_succ {ds : List PyData} {i : Nat} {c x : PyData} (h : ds[i]? = some c) (hx : x ∈ ds.take (i + 1)) : x ∈ ds.take i ∨ x = c := by
  rw [List.take_add_one, h] at hx
  exact (List.mem_append.mp hx).imp id List.mem_singleton.mp
theorem m_init (T : Txt K mg) (hD : KdC K w mg "ROWS_THAT_FIT" tabR) : RdMX P w K mg base 62 "Sheet" "__init__" ["self", "columns"] (initX mg) := by
  refine rdmX (k := 61) T.Sheet_init_ sc_Sheet_init (fun cs ω Φ Ψ ⟨_, _, _, e, _⟩ => by rw [e]; rfl) fun X f cdv A outer s H E hX hr cs ω Φ Ψ ⟨p, d, ω0, e, e2, hh, q1, q2, q3⟩ => ?_
  have hu := room_u64 hr
  have hpo : PassesOwn (model X.prog X.w) X.A X.env X.xe := by
    subst hX
    exact passes_of rfl
  subst hX; subst e; subst e2
  refine bx_cons ?_
  refine sx_if ?_
  refine nt_not ?_
  refine nt_val ?_
  refine n_fn (r_are_columns T) hr ?_
  refine na_cons ?_
  refine n_var 1 ?_
  refine na_nil ?_
  refine ⟨d, rfl, hh.dp, _, rfl, ?_⟩
  cases ha : areD d
  · refine bIf rfl ?_
    refine bx_one ?_
    refine sx_raise T.Wrong_ (fun F => okXi F sc_Wrong_init rfl rfl (by decide) (by decide) rfl (fun _ => rfl)) hr rfl ?_
    refine n_int ?_
    exact ⟨_, rfl, q1 ha⟩
  refine bIfn rfl (bx_nil ?_)
  obtain ⟨hs, hcol⟩ := are_seq ha
  have hlen := hh.len _ hs
  refine bx_s (s_fldO 0 0 T.Sheet_.ok T.nf_Sheet__columns rfl ?_)
  refine n_lcA 2 d hs rfl sc_Sheet_init.nd (blkOk_by (N := N_Sheet_init) (sc := defScope s_Sheet_init) (by decide +kernel)) ?_ (fun s' H' C cl fp => pg_name (i := 2) sc_Sheet_init.nd rfl (Or.inl rfl))
  refine n_var 1 ⟨rfl, fun i ω2 acc => ω2 = (p, insP (clsA mg "Sheet") []) :: ω0 ∧ acc = rowsD ((itm d).take i), ⟨rfl, rfl⟩, ?_, ?_⟩
  · rintro i ω2 acc D d0 hd ⟨rfl, rfl⟩ s' H' C cl fp
    obtain ⟨fa, fb, fc, hx, _⟩ := col_three (hcol _ (List.mem_of_getElem? hd))
    refine n_tupleOf T.z_tuple ?_
    refine n_var 2 ?_
    refine ⟨[fa, fb, fc], ?_, _, rfl, ?_, _, rfl, rfl, ?_⟩
    · cases d0 <;> cases hx
      · exact .inl rfl
      · exact .inr rfl
    · rw [rowsD, List.length_map, List.length_take]; omega
    · rw [rows_take hd, show itm d0 = [fa, fb, fc] from by rw [itm, hx]; rfl]
  rintro ω2 acc ⟨rfl, rfl⟩
  rw [List.take_length]
  refine ⟨_, _, rfl, rfl, by decide, ?_⟩
  show BX _ ((p, insP (clsA mg "Sheet") [(.str "_columns", .list (rowsD (itm d)))]) :: ω0) _ _ _ _
  refine bx_one ?_
  refine sx_forEn 3 2 hpo rfl sc_Sheet_init.nd T.z_enumerate ?_
  refine n_fldO 0 0 T.Sheet_.ok T.nf_Sheet__columns rfl rfl (d := .list (rowsD (itm d))) (if_pos rfl) ⟨rowsD (itm d), rfl, fun i ω2 δ2 => ω2 = (p, insP (clsA mg "Sheet") [(.str "_columns", .list (rowsD (itm d)))]) :: ω0 ∧ (∀ x ∈ (itm d).take i, badIn (itm x) = none) ∧ ∃ x2 x3 x4 x5, δ2 = [some (.raw (.ref p)), some (.dat d), x2, x3, x4, x5], ⟨rfl, (fun x hx => by simp at hx), _, _, _, _, rfl⟩, ?_, ?_⟩
  · rintro i ω2 δ2 d' hd' ⟨rfl, hok, x2, x3, x4, x5, rfl⟩
    obtain ⟨c, hd, rfl⟩ : ∃ c, (itm d)[i]? = some c ∧ d' = .tuple (itm c) := by
      rw [rowsD, List.getElem?_map] at hd'
      cases z : (itm d)[i]? with
      | none => rw [z] at hd'; cases hd'
      | some c => rw [z] at hd'; exact ⟨c, rfl, (Option.some.inj hd').symm⟩
    have hm := List.mem_of_getElem? hd
    obtain ⟨fa, fb, fc, hx, ga, gb, gc⟩ := col_three (hcol _ hm)
    have hic : itm c = [fa, fb, fc] := by rw [itm, hx]; rfl
    rw [hic]
    have hdc := seq_depth hs hm
    have hdp := hh.dp
    have hF : ∀ e, (e = fa ∨ e = fb ∨ e = fc) → FOk e ∧ e.depth < 25 := fun e he => by
      have hmem : e ∈ ([fa, fb, fc] : List PyData) := by simpa using he
      have hF1 : isFd e = true := by
        rcases he with rfl | rfl | rfl <;> assumption
      exact ⟨(hh.fo _ hs _ hm _ hx e hmem).2 hF1, by have := seq_depth hx hmem; omega⟩
    refine bx_one ?_
    refine sx_forZT 4 5 hpo rfl sc_Sheet_init.nd T.z_zip ?_
    refine n_const T.c_PLACES ?_
    refine n_var 2 ?_
    refine ⟨_, _, rfl, rfl, rfl, fun j ω3 δ3 => ω3 = (p, insP (clsA mg "Sheet") [(.str "_columns", .list (rowsD (itm d)))]) :: ω0 ∧ Fit3 fa fb fc j ∧ ∃ x2 x4 x5, δ3 = [some (.raw (.ref p)), some (.dat d), x2, some (.dat (.int (i : Int))), x4, x5], ⟨rfl, .zero, _, _, _, rfl⟩, ?_, ?_⟩
    · rintro j ω3 δ3 dn e hdj hej ⟨rfl, F3, y2, y4, y5, rfl⟩
      obtain ⟨pl, hpl, rfl, hcase, s1, s2⟩ := F3.step hdj hej
      obtain ⟨hFo, hdpe⟩ := hF e hcase
      refine bx_one ?_
      refine sx_if ?_
      refine nt_not ?_
      refine nt_val ?_
      refine n_fn (r_fits T hD 25) hr ?_
      refine na_cons ?_
      refine n_var 5 ?_
      refine na_cons ?_
      refine n_var 4 ?_
      refine na_nil ?_
      refine ⟨_, _, rfl, hdpe, hFo, hpl, _, rfl, ?_⟩
      cases hfit : fitD pl e
      · refine bIf rfl ?_
        refine bx_one ?_
        refine sx_raise T.NoFit_ (fun F => okXi F sc_NoFit_init rfl rfl (by decide) (by decide) rfl (fun _ => rfl)) hr rfl ?_
        refine n_tupU ?_
        refine na_cons ?_
        refine n_var 3 ?_
        refine na_cons ?_
        refine n_var 4 ?_
        refine na_nil ?_
        refine ⟨_, rfl, rfl, _, rfl, q2 ha i pl ?_ _⟩
        have := misfit_at (k := 0) hok hd (by rw [hic]; exact s2 hfit)
        rwa [Nat.zero_add] at this
      · exact bIfn rfl (bx_nil ⟨rfl, s1 hfit, _, _, _, rfl⟩)
    · rintro ω3 δ3 ⟨rfl, F3, y2, y4, y5, rfl⟩
      refine ⟨rfl, fun x hx => ?_, _, _, _, _, rfl⟩
      rcases mem_take_succ hd hx with z | rfl
      · exact hok x z
      · rw [hic]
        exact F3.all
  · rintro ω2 δ2 ⟨rfl, hok, x2, x3, x4, x5, rfl⟩
    rw [rowsD, List.length_map, List.take_length] at hok
    exact q3 ha (misfit_none hok)
def lenC (mg : Str → Option Value) : Con := fun cs ω Φ => ∃ cols : List PyData, cs = [.dat (shD mg cols)] ∧ Φ ω (.dat (.int (cols.length : Int)))
theorem m_len (T : Txt K mg) : RdM P w K mg base 1 "Sheet" "__len__" ["self"] (lenC mg) := by
  refine rdm (k := 0) T.Sheet_len_ sc_Sheet_len (fun cs ω Φ ⟨_, e, _⟩ => by rw [e]; rfl) fun X f cdv A outer s H E hX hr cs ω Φ ⟨cols, e, q⟩ => ?_
  subst hX; subst e
  refine b_one ?_
  refine s_ret ?_
  refine n_len T.z_len ?_
  refine n_fld T.nf_Sheet__columns ?_
  refine n_var 0 ?_
  exact ⟨_, .list cols, rfl, if_pos rfl, _, _, rfl, rfl, q⟩
/-! ## what is heard -/
def outD (d : PyData) : PyData := if areD d = true then (match misfit (itm d) 0 with
  | some (i, pl) => .tuple [.str "fit", .tuple [.int (i : Int), .str pl]]
  | none => .tuple [.str "told", .int ((itm d).length : Int)]) else .tuple [.str "wrong", .int 0]
def resC : Con := fun cs ω Φ => ∃ d, cs = [.dat d] ∧ Hand d ∧ Φ ω (.dat (outD d))
theorem res_wrong {d : PyData} (h : areD d = false) : outD d = .tuple [.str "wrong", .int 0] := by rw [outD, if_neg (by rw [h]; decide)]
theorem res_fit {d : PyData} {i : Nat} {pl : Str} (h : areD d = true) (hm : misfit (itm d) 0 = some (i, pl)) : outD d = .tuple [.str "fit", .tuple [.int (i : Int), .str pl]] := by rw [outD, if_pos h, hm]
theorem res_told {d : PyData} (h : areD d = true) (hm : misfit (itm d) 0 = none) : outD d = .tuple [.str "told", .int ((itm d).length : Int)] := by rw [outD, if_pos h, hm]
theorem r_heard (T : Txt K mg) (hD : KdC K w mg "ROWS_THAT_FIT" tabR) : Rdy P w K mg base 65 "_law_heard" ["thing"] resC := by
  refine rdy (k := 64) T._law_heard_ sc__law_heard (fun cs ω Φ ⟨_, e, _⟩ => by rw [e]; rfl) fun X f cdv A outer s H E hX hr cs ω Φ ⟨d, e, hh, q⟩ => ?_
  subst hX; subst e
  refine b_one (s_try (.named ⟨rfl, by decide, .inl T.Wrong_.at_⟩ sc__law_heard.nd (i := 1) rfl rfl (.named ⟨rfl, by decide, .inl T.NoFit_.at_⟩ sc__law_heard.nd (i := 1) rfl rfl (.bare ⟨rfl, by decide, .inl T.g_SheetError⟩ .nil))) fun pn xe po => ?_)
  refine bx_one ?_
  refine sx_ret ?_
  refine nx_tupU ?_
  refine nax_cons ?_
  refine nx_of ?_
  refine n_str ?_
  refine nax_cons ?_
  refine nx_lenI T.z_len (m_len T) hr ?_
  refine nx_make T.Sheet_ (m_init T hD) hr ?_
  refine na_cons ?_
  refine n_var 0 ?_
  refine na_nil ?_
  refine fun p => ⟨p, d, _, rfl, rfl, hh, fun ha dd => ?_, fun ha i pl hm fs dd => ?_, fun ha hm => ?_⟩
  · rw [res_wrong ha] at q
    refine ⟨true, T.ex_Wrong_Wrong, fun _ a ob pn hz hf => ?_, fun h => absurd h (by decide)⟩
    refine b_one ?_
    refine s_ret ?_
    refine n_drop ?_
    refine n_drop ?_
    refine n_tupU ?_
    refine na_cons ?_
    refine n_str ?_
    refine na_cons ?_
    refine n_xf (fs := [(.str "place", .int 0)]) (d := .int 0) 0 T.Wrong_.xf T.Wrong_.no hz hf ?_
    refine n_var 1 ?_
    exact ⟨rfl, rfl, if_pos rfl, na_nil ⟨_, rfl, rfl, _, _, _, rfl, _, _, _, rfl, q⟩⟩
  · rw [res_fit ha hm] at q
    refine ⟨false, T.ex_NoFit_Wrong, fun h => absurd h (by decide), fun _ => ⟨true, T.ex_NoFit_NoFit, fun _ a ob pn hz hf => ?_, fun h => absurd h (by decide)⟩⟩
    refine b_one ?_
    refine s_ret ?_
    refine n_drop ?_
    refine n_drop ?_
    refine n_tupU ?_
    refine na_cons ?_
    refine n_str ?_
    refine na_cons ?_
    refine n_xf (fs := [(.str "place", .tuple [.int (i : Int), .str pl])]) (d := .tuple [.int (i : Int), .str pl]) 0 T.NoFit_.xf T.NoFit_.no hz hf ?_
    refine n_var 1 ?_
    exact ⟨rfl, rfl, if_pos rfl, na_nil ⟨_, rfl, rfl, _, _, _, rfl, _, _, _, rfl, q⟩⟩
  · rw [res_told ha hm] at q
    have hlen := hh.len _ (are_seq ha).1
    refine ⟨rfl, _, _, rfl, _, rfl, rowsD (itm d), rfl, _, rfl, by omega, ?_, ?_⟩
    · rw [rowsD, List.length_map]; omega
    refine nax_of ?_
    refine na_nil ?_
    refine ⟨_, rfl, rfl, ?_⟩
    rw [rowsD, List.length_map]
    exact q
end

section
variable {P : Program} {w : World} {K : PySem.W.Frag} {mg : Str → Option Value} {base : Heap}
theorem filt_nil {ds : List PyData} {f : PyData → Bool} (h : ds.all f = true) : ds.filter (fun x => !f x) = [] := by
  rw [List.filter_eq_nil_iff]
  intro x hx
  rw [List.all_eq_true.mp h x hx]
  decide
theorem filt_ne {ds : List PyData} {f : PyData → Bool} (h : ds.all f = false) : ds.filter (fun x => !f x) ≠ [] := fun z => by
  rw [List.filter_eq_nil_iff] at z
  have : ds.all f = true := List.all_eq_true.mpr fun x hx => by
    have := z x hx
    cases hf : f x
    · rw [hf] at this; exact absurd rfl this
    · rfl
  rw [this] at h
  cases h
theorem filt_take1 {p : PyData → Bool} {l : List PyData} {i : Nat} {a : PyData} (h : l[i]? = some a) : (l.take (i + 1)).filter p = (l.take i).filter p ++ if p a = true then [a] else [] := by
  rw [List.take_add_one, h, List.filter_append]
  cases z : p a <;> simp [z]
theorem r_due (T : Txt K mg) (hD : KdC K w mg "ROWS_THAT_FIT" tabR) : Rdy P w K mg base 65 "_law_due" ["thing"] resC := by
  refine rdy (k := 64) T._law_due_ sc__law_due (fun cs ω Φ ⟨_, e, _⟩ => by rw [e]; rfl) fun X f cdv A outer s H E hX hr cs ω Φ ⟨d, e, hh, q⟩ => ?_
  have hu := room_u64 hr
  subst hX; subst e
  refine b_cons ?_
  refine s_if ?_
  refine nt_not ?_
  refine nt_val ?_
  refine n_isi2 .list .tuple T.z_isinstance T.z_list T.z_tuple ?_
  refine n_var 0 ?_
  refine ⟨d, rfl, _, rfl, ?_⟩
  rw [seq_isi]
  cases hs : seqD d with
  | none =>
    refine bIf rfl ?_
    rw [res_wrong (by rw [areD, hs])] at q
    refine b_one ?_
    refine s_ret ?_
    refine n_tupU ?_
    refine na_cons ?_
    refine n_str ?_
    refine na_cons ?_
    refine n_int ?_
    refine na_nil ?_
    exact ⟨_, rfl, rfl, q⟩
  | some ds =>
    have hlen := hh.len _ hs
    have hit : itm d = ds := by rw [itm, hs]; rfl
    refine bIfn rfl (b_nil ?_)
    refine b_cons ?_
    refine s_forA 1 d hs PassesOwn.never rfl sc__law_due.nd ?_
    refine n_var 0 ?_
    refine ⟨rfl, fun i ω2 δ2 => ω2 = ω ∧ (ds.take i).all colB = true ∧ ∃ x1 x2 x3 x4 x5, δ2 = [some (.dat d), x1, x2, x3, x4, x5], ⟨rfl, rfl, _, _, _, _, _, rfl⟩, ?_, ?_⟩
    · rintro i ω2 δ2 d0 hd ⟨rfl, ha, x1, x2, x3, x4, x5, rfl⟩
      have hm := List.mem_of_getElem? hd
      have no : colB d0 = false → Φ ω2 (.dat (.tuple [.str "wrong", .int 0])) := fun z => by
        rwa [res_wrong (by rw [areD, hs]; exact all_mem hm z)] at q
      refine b_one (s_if ?_)
      refine NT.imp (Φ := fun ω' k => ω' = ω2 ∧ k = !colB d0) ?_ ?_
      · refine nt_w ?_
        refine nw_or ?_
        refine nt_not ?_
        refine nt_val ?_
        refine n_isi2 .list .tuple T.z_isinstance T.z_list T.z_tuple ?_
        refine n_var 1 ?_
        refine ⟨d0, rfl, _, rfl, ?_⟩
        rw [seq_isi]
        cases hx : seqD d0 with
        | none => exact bIf rfl ⟨rfl, by rw [colB, hx]; rfl⟩
        | some xs =>
          refine bIfn rfl ?_
          refine nw_or ?_
          refine nt_ne hu ?_
          refine n_len T.z_len ?_
          refine n_var 1 ?_
          refine ⟨d0, _, rfl, seq_len hx, ?_⟩
          refine n_int ?_
          refine ⟨_, _, rfl, rfl, rfl, rfl, ?_⟩
          rw [len3]
          have hcl : xs.length ≤ 90000 ∨ ¬ xs.length = 3 := by omega
          by_cases h3 : xs.length = 3
          rotate_left
          · exact bIf (by rw [decide_eq_false h3]; rfl) ⟨rfl, by rw [colB, hx]; show true = !(decide (xs.length = 3) && _); rw [decide_eq_false h3]; rfl⟩
          refine bIfn (by rw [decide_eq_true h3]; rfl) ?_
          refine nw_or1 (nt_neE hu ?_)
          refine n_lcAi 2 d0 hx rfl sc__law_due.nd (blkOk_by (N := N__law_due) (sc := defScope s__law_due) (by decide +kernel)) ?_ (fun s' H' C cl fp => pg_name (i := 2) sc__law_due.nd rfl (Or.inl rfl))
          refine n_var 1 ⟨rfl, fun j ω4 acc => ω4 = ω2 ∧ acc = (xs.take j).filter (fun x => !isFd x), ⟨rfl, rfl⟩, ?_, ?_⟩
          · rintro j ω4 acc D e he ⟨rfl, rfl⟩ s' H' C cl fp
            have hem := List.mem_of_getElem? he
            refine nt_not ?_
            refine nt_val ?_
            refine n_fn (r_law_is_formula T) hr ?_
            refine na_cons ?_
            refine n_var 2 ?_
            refine na_nil ?_
            refine ⟨e, rfl, (hh.fo _ hs _ hm _ hx e hem).1, _, rfl, ?_⟩
            have ft := filt_take1 (p := fun x => !isFd x) he
            refine ite2 (fun h => ?_) (fun h => ?_)
            · intro s' H' C cl fp
              rw [if_pos h] at ft
              refine n_var 2 ?_
              refine ⟨e, rfl, ?_, _, rfl, rfl, ft.symm⟩
              have g1 := List.length_filter_le (fun x => !isFd x) (xs.take j)
              have g2 := List.length_take_le' j xs
              omega
            · rw [if_neg h, List.append_nil] at ft
              exact ⟨_, rfl, rfl, ft.symm⟩
          rintro ω4 acc ⟨rfl, rfl⟩
          rw [List.take_length]
          refine n_lst ?_
          refine na_nil ?_
          refine ⟨[], rfl, by decide, _, rfl, rfl, rfl, ?_⟩
          rw [colB, hx]
          show _ = !(decide (xs.length = 3) && xs.all isFd)
          rw [decide_eq_true h3, Bool.true_and]
          cases hF : xs.all isFd
          · exact decide_eq_true (filt_ne hF)
          · exact decide_eq_false (fun z => z (filt_nil hF))
      · rintro ω' k ⟨rfl, rfl⟩
        cases hc : colB d0
        · refine bIf rfl ?_
          refine b_one ?_
          refine s_ret ?_
          refine n_tupU ?_
          refine na_cons ?_
          refine n_str ?_
          refine na_cons ?_
          refine n_int ?_
          refine na_nil ?_
          exact ⟨_, rfl, rfl, no hc⟩
        · exact bIfn rfl (b_nil ⟨rfl, by rw [take_all hd, ha, hc]; rfl, _, _, _, _, _, rfl⟩)
    rintro ω2 δ2 ⟨rfl, ha, x1, x2, x3, x4, x5, rfl⟩
    rw [List.take_length] at ha
    have har : areD d = true := by rw [areD, hs]; exact ha
    have hcol := List.all_eq_true.mp ha
    refine b_cons ?_
    refine s_forEnA 3 1 d hs PassesOwn.never rfl sc__law_due.nd T.z_enumerate ?_
    refine n_var 0 ?_
    refine ⟨rfl, fun i ω3 δ2 => ω3 = ω2 ∧ (∀ x ∈ ds.take i, badIn (itm x) = none) ∧ ∃ x1 x2 x3 x4 x5, δ2 = [some (.dat d), x1, x2, x3, x4, x5], ⟨rfl, (fun x hx => by simp at hx), _, _, _, _, _, rfl⟩, ?_, ?_⟩
    · rintro i ω3 δ2 c hd ⟨rfl, hok, x1, x2, x3, x4, x5, rfl⟩
      have hm := List.mem_of_getElem? hd
      obtain ⟨fa, fb, fc, hx, ga, gb, gc⟩ := col_three (hcol _ hm)
      have hic : itm c = [fa, fb, fc] := by rw [itm, hx]; rfl
      have hdc := seq_depth hs hm
      have hdp := hh.dp
      have hF : ∀ e, (e = fa ∨ e = fb ∨ e = fc) → FOk e ∧ e.depth < 25 := fun e he => by
        have hmem : e ∈ ([fa, fb, fc] : List PyData) := by simpa using he
        have hF1 : isFd e = true := by
          rcases he with rfl | rfl | rfl <;> assumption
        exact ⟨(hh.fo _ hs _ hm _ hx e hmem).2 hF1, by have := seq_depth hx hmem; omega⟩
      refine b_one ?_
      refine s_forZA 4 5 c hx PassesOwn.never rfl sc__law_due.nd T.z_zip ?_
      refine n_lstU ?_
      refine na_cons ?_
      refine n_str ?_
      refine na_cons ?_
      refine n_str ?_
      refine na_cons ?_
      refine n_str ?_
      refine na_nil ?_
      refine ⟨_, rfl, rfl, ?_⟩
      refine n_var 1 ⟨_, rfl, rfl, rfl, fun j ω4 δ3 => ω4 = ω3 ∧ Fit3 fa fb fc j ∧ ∃ x2 x4 x5, δ3 = [some (.dat d), some (.dat c), x2, some (.dat (.int (i : Int))), x4, x5], ⟨rfl, .zero, _, _, _, rfl⟩, ?_, ?_⟩
      · rintro j ω4 δ3 dn e hdj hej ⟨rfl, F3, y2, y4, y5, rfl⟩
        obtain ⟨pl, hpl, rfl, hcase, s1, s2⟩ := F3.step hdj hej
        obtain ⟨hFo, hdpe⟩ := hF e hcase
        refine b_one ?_
        refine s_if ?_
        refine nt_not ?_
        refine nt_val ?_
        refine n_fn (r_law_fits T 25) hr ?_
        refine na_cons ?_
        refine n_var 5 ?_
        refine na_cons ?_
        refine n_var 4 ?_
        refine na_nil ?_
        refine ⟨_, _, rfl, hdpe, hFo, hpl, _, rfl, ?_⟩
        cases hfit : fitD pl e
        · refine bIf rfl ?_
          have hmis := misfit_at (k := 0) hok hd (by rw [hic]; exact s2 hfit)
          rw [Nat.zero_add] at hmis
          rw [res_fit har (by rw [hit]; exact hmis)] at q
          refine b_one ?_
          refine s_ret ?_
          refine n_tupU ?_
          refine na_cons ?_
          refine n_str ?_
          refine na_cons ?_
          refine n_tupU ?_
          refine na_cons ?_
          refine n_var 3 ?_
          refine na_cons ?_
          refine n_var 4 ?_
          refine na_nil ?_
          exact ⟨_, rfl, rfl, na_nil ⟨_, rfl, rfl, q⟩⟩
        · exact bIfn rfl (b_nil ⟨rfl, s1 hfit, _, _, _, rfl⟩)
      · rintro ω4 δ3 ⟨rfl, F3, y2, y4, y5, rfl⟩
        refine ⟨rfl, fun x hx => ?_, _, _, _, _, _, rfl⟩
        rcases mem_take_succ hd hx with z | rfl
        · exact hok x z
        · rw [hic]
          exact F3.all
    · rintro ω3 δ2 ⟨rfl, hok, x1, x2, x3, x4, x5, rfl⟩
      rw [List.take_length] at hok
      rw [res_told har (by rw [hit]; exact misfit_none hok), hit] at q
      refine b_one ?_
      refine s_ret ?_
      refine n_tupU ?_
      refine na_cons ?_
      refine n_str ?_
      refine na_cons ?_
      refine n_len T.z_len ?_
      refine n_var 0 ?_
      exact ⟨d, _, rfl, seq_len hs, na_nil ⟨_, rfl, rfl, q⟩⟩
/-! ## drawn things -/
structure El (d : PyData) : Prop where
  ok : d.showable = true
  dp : d.depth ≤ 20
  sz : lenB d ≤ 300000
structure Cl (d : PyData) : Prop where
  ok : d.showable = true
  dp : d.depth ≤ 21
  sz : lenB d ≤ 1300000
  el : ∀ xs, seqD d = some xs → ∀ x ∈ xs, El x
theorem seq_show {d : PyData} {xs : List PyData} (h : seqD d = some xs) : d.showable = PyData.showableAll xs ∧ lenB d ≤ 4 + lenA xs ∧ lenA xs ≤ lenB d := by
  cases d <;> cases h
  · exact ⟨rfl, by show 2 + _ ≤ _; omega, by show _ ≤ 2 + _; omega⟩
  · exact ⟨rfl, Nat.le_refl _, by show _ ≤ 4 + _; omega⟩
theorem El.cl {d : PyData} (h : El d) : Cl d := ⟨h.ok, by have := h.dp; omega, by have := h.sz; omega, fun xs hx x hm => by
  obtain ⟨g1, _, g3⟩ := seq_show hx
  have g4 := mem_lenA hm
  have g5 := seq_depth hx hm
  have g6 := h.sz
  have g7 := h.dp
  exact ⟨showall_mem (by rw [← g1]; exact h.ok) hm, by omega, by omega⟩⟩
theorem Fg.el {d : PyData} (h : Fg 300000 11 d) : El d := ⟨h.ok, by have := h.dp; omega, h.sz⟩
theorem It.el {d : PyData} (h : It 10000 20 d) : El d := ⟨h.1.ok, h.2, by have := h.1.sz; omega⟩
theorem cl_list {xs : List PyData} (h : ∀ x ∈ xs, El x) (hl : xs.length ≤ 4) : Cl (.list xs) ∧ Cl (.tuple xs) := by
  have g1 := showall_mk fun x hx => (h x hx).ok
  have g2 := depth_mk (k := 20) fun x hx => (h x hx).dp
  have g3 := lenA_le (b := 300000) fun x hx => (h x hx).sz
  have g4 : xs.length * (300000 + 2) ≤ 4 * 300002 := Nat.mul_le_mul hl (Nat.le_refl _)
  have g5 : lenA xs ≤ 1200008 := by omega
  refine ⟨⟨g1, Nat.succ_le_succ g2, by show 2 + lenA xs ≤ _; omega, fun ys hy x hm => ?_⟩, ⟨g1, Nat.succ_le_succ g2, by show 4 + lenA xs ≤ _; omega, fun ys hy x hm => ?_⟩⟩
  · cases hy; exact h x hm
  · cases hy; exact h x hm
theorem Cl.fo {d : PyData} (h : Cl d) : ∀ xs, seqD d = some xs → ∀ x ∈ xs, lenB x ≤ 1900000 ∧ (isFd x = true → FOk x) := fun xs hx x hm => by
  have e := h.el xs hx x hm
  have g1 := e.sz
  have g2 := e.dp
  exact ⟨by omega, fun z => ⟨z, e.ok, by omega, by omega⟩⟩
structure Th (d : PyData) : Prop where
  hand : Hand d
  sh : Shows d
  it : ∀ xs, d = .list xs → Hand (.tuple xs)
theorem th_list {xs : List PyData} (h : ∀ x ∈ xs, Cl x) (hl : xs.length ≤ 4) : Th (.list xs) := by
  have g1 := showall_mk fun x hx => (h x hx).ok
  have g2 := depth_mk (k := 21) fun x hx => (h x hx).dp
  have g3 := lenA_le (b := 1300000) fun x hx => (h x hx).sz
  have g4 : xs.length * (1300000 + 2) ≤ 4 * 1300002 := Nat.mul_le_mul hl (Nat.le_refl _)
  have hd : ∀ d, seqD d = some xs → d.depth ≤ 22 → Hand d := fun d hd hp => ⟨by omega, fun ds z => by rw [hd] at z; cases z; omega, fun ds z c hc ys hy => by rw [hd] at z; cases z; exact (h c hc).fo ys hy⟩
  exact ⟨hd _ rfl (Nat.succ_le_succ g2), shows_big g1 (Nat.le_trans (Nat.succ_le_succ g2) (by decide)) (by show 2 + lenA xs ≤ _; omega), fun ys e => by cases e; exact hd _ rfl (Nat.succ_le_succ g2)⟩
theorem th_odd {d : PyData} (h : It 10000 20 d) : Th d := by
  have e := h.el
  have hd : ∀ d, El d → lenB d ≤ 20000 → Hand d := fun d e hz => ⟨by have := e.dp; omega, fun ds z => by
    have g1 := (seq_show z).2.2
    have g2 := len_lenA ds
    omega, fun ds z c hc ys hy => (El.cl (e.cl.el ds z c hc)).fo ys hy⟩
  have hz := h.1.sz
  refine ⟨hd d e (by omega), shows_big e.ok (by have := e.dp; omega) (by have := e.sz; omega), fun xs z => ?_⟩
  subst z
  have h1 := h.1.sz
  have h2 : lenB (.list xs) = 2 + lenA xs := rfl
  exact hd _ ⟨e.ok, e.dp, by show 4 + lenA xs ≤ _; omega⟩ (by show 4 + lenA xs ≤ _; omega)
def ColW (d : PyData) : Prop := ∃ a b c, d = .tuple [a, b, c] ∧ Fg 300000 11 a ∧ Fg 300000 11 b ∧ Fg 300000 11 c
theorem ColW.cl {d : PyData} (h : ColW d) : Cl d := by
  obtain ⟨a, b, c, rfl, h1, h2, h3⟩ := h
  refine (cl_list (fun x hx => ?_) (Nat.le_of_ble_eq_true rfl)).2
  simp only [List.mem_cons, List.not_mem_nil, or_false] at hx
  rcases hx with rfl | rfl | rfl
  · exact h1.el
  · exact h2.el
  · exact h3.el
def sheetC : Con := fun cs ω Φ => ∃ (n : Nat) (p : Addr) (most : Int), cs = [.raw (.ref p), .dat (.int most)] ∧ ω[n]? = some (p, bagP) ∧ 0 ≤ most ∧ most ≤ 100 ∧ ∀ cols, (∀ c ∈ cols, ColW c) → (cols.length : Int) ≤ most → Φ ω (.dat (.list cols))
theorem r_sheet (T : Txt K mg) : Rdy P w K mg base 11 "_law_sheet" ["bag", "most"] sheetC := by
  refine rdy (k := 10) T._law_sheet_ sc__law_sheet (fun cs ω Φ ⟨_, _, _, e, _⟩ => by rw [e]; rfl) fun X f cdv A outer s H E hX hr cs ω Φ ⟨n, p, most, e, hw, m0, m1, q⟩ => ?_
  have hu := room_u64 hr
  subst hX; subst e
  refine b_cons ?_
  refine s_set 2 sc__law_sheet.nd ?_
  refine n_lstOU ?_
  refine na_nil ?_
  refine ⟨_, rfl, rfl, fun p2 => ?_⟩
  refine b_cons ?_
  refine s_forR 3 PassesOwn.never rfl sc__law_sheet.nd T.z_range ?_
  refine n_fn (r_take T) hr ?_
  refine na_cons ?_
  refine n_var 0 ?_
  refine na_cons ?_
  refine n_add ?_
  refine n_var 1 ?_
  refine n_int ?_
  refine ⟨_, _, rfl, rfl, na_nil ⟨n + 1, p, _, rfl, hw, by omega, by omega, fun v v0 v1 => ?_⟩⟩
  refine ⟨v, rfl, by omega, by omega, fun i ω2 δ2 => ∃ cols x3 x4 x5, ω2 = (p2, lstP cols) :: ω ∧ cols.length = i ∧ (∀ c ∈ cols, ColW c) ∧ δ2 = [some (.raw (.ref p)), some (.dat (.int most)), some (.raw (.ref p2)), x3, x4, x5], ⟨[], _, _, _, rfl, rfl, (fun c hc => by cases hc), rfl⟩, ?_, ?_⟩
  · rintro i ω2 δ2 hi ⟨cols, x3, x4, x5, rfl, hl, hc, rfl⟩
    have done : ∀ {d : PyData}, ColW d → ∀ c ∈ cols ++ [d], ColW c := fun {d} hd c hcm => (List.mem_append.mp hcm).elim (hc c) fun z => by rw [List.mem_singleton.mp z]; exact hd
    refine b_one ?_
    refine s_if ?_
    refine nt_eq hu ?_
    refine n_fn (r_take T) hr ?_
    refine na_cons ?_
    refine n_var 0 ?_
    refine na_cons ?_
    refine n_int ?_
    refine na_nil ?_
    refine ⟨n + 1, p, _, rfl, hw, by decide, by decide, fun u _ _ => ?_⟩
    refine n_int ⟨_, _, rfl, rfl, rfl, rfl, ?_⟩
    refine ite2 (fun _ => ?_) (fun _ => ?_)
    · refine b_cons ?_
      refine s_set 4 sc__law_sheet.nd ?_
      refine n_tupU ?_
      refine na_cons ?_
      refine n_str ?_
      refine na_cons ?_
      refine n_tupU ?_
      refine na_cons ?_
      refine n_str ?_
      refine na_cons ?_
      refine n_int ?_
      refine na_nil ?_
      refine ⟨_, rfl, rfl, ?_⟩
      refine na_cons ?_
      refine n_tupU ?_
      refine na_cons ?_
      refine n_str ?_
      refine na_cons ?_
      refine n_neg ?_
      refine n_int ?_
      refine ⟨_, rfl, na_nil ⟨_, rfl, rfl, na_nil ⟨_, rfl, rfl, ?_⟩⟩⟩
      refine b_one ?_
      refine s_appendO 2 0 rfl ⟨_, rfl⟩ ?_
      refine n_tupU ?_
      refine na_cons ?_
      refine n_tupU ?_
      refine na_cons ?_
      refine n_str ?_
      refine na_nil ?_
      refine ⟨_, rfl, rfl, ?_⟩
      refine na_cons ?_
      refine n_tupU ?_
      refine na_cons ?_
      refine n_str ?_
      refine na_cons ?_
      refine n_tupU ?_
      refine na_cons ?_
      refine n_var 4 ?_
      refine na_cons ?_
      refine n_fn (r_name T) hr ?_
      refine na_cons ?_
      refine n_var 0 ?_
      refine na_cons ?_
      refine n_str ?_
      refine na_nil ?_
      refine ⟨n + 1, p, "body", rfl, hw, fun d h1 h2 => na_nil ⟨_, rfl, rfl, na_nil ⟨_, rfl, rfl, ?_⟩⟩⟩
      refine na_cons ?_
      refine n_tupU ?_
      refine na_cons ?_
      refine n_str ?_
      refine na_cons ?_
      refine n_tupU ?_
      refine na_cons ?_
      refine n_str ?_
      refine na_cons ?_
      refine n_int ?_
      refine na_nil ?_
      refine ⟨_, rfl, rfl, ?_⟩
      refine na_cons ?_
      refine n_tupU ?_
      refine na_cons ?_
      refine n_str ?_
      refine na_cons ?_
      refine n_int ?_
      refine na_nil ?_
      refine ⟨_, rfl, rfl, na_nil ⟨_, rfl, rfl, na_nil ⟨_, rfl, rfl, ?_⟩⟩⟩
      have nm : ∀ (s : Str) (i : Int), isNameD (.tuple [.str "name", .tuple [.str "by", .int 0], .tuple [.str s, .int i]]) = true → Neat 1000 2 (.tuple [.str "name", .tuple [.str "by", .int 0], .tuple [.str s, .int i]]) → Fg 300000 11 (.tuple [.str "name", .tuple [.str "by", .int 0], .tuple [.str s, .int i]]) := fun s i h1 h2 => (fg_name h1 h2).mono (by decide) (by decide)
      have ab : Fg 1100 3 (.tuple [.str "name", .tuple [.str "by", .int 0], .tuple [.str "by", .int (-1)]]) := fg_name (by decide +kernel) ⟨by decide +kernel, showsN_of (by decide +kernel), by decide +kernel⟩
      have lst : Fg 1100 3 (.tuple [.str "name", .tuple [.str "by", .int 0], .tuple [.str "last", .int 0]]) := fg_name (by decide +kernel) ⟨by decide +kernel, showsN_of (by decide +kernel), by decide +kernel⟩
      refine ⟨cols, _, rfl, rfl, by omega, _, _, _, _, rfl, by rw [List.length_append, hl]; rfl, done ⟨_, _, _, rfl, (fg_bare (by simp only [List.mem_cons, true_or, or_true])).mono (by decide) (by decide), ?_, lst.mono (by decide) (by decide)⟩, rfl⟩
      refine (fg_gath (b := 1100) (k := 3) (m := 2) (by simp only [List.mem_cons, true_or, or_true]) (fun x hx => ?_) (Nat.le_refl _)).mono (by decide) (by decide)
      simp only [List.mem_cons, List.not_mem_nil, or_false] at hx
      rcases hx with rfl | rfl
      · exact ab
      · exact fg_name h1 h2
    · refine b_one ?_
      refine s_appendO 2 0 rfl ⟨_, rfl⟩ ?_
      refine n_tupleOf T.z_tuple ?_
      refine n_lcT 5 rfl sc__law_sheet.nd (blkOk_by (N := N__law_sheet) (sc := defScope s__law_sheet) (by decide +kernel)) ?_ (fun s' H' C cl fp => pg_name (i := 5) sc__law_sheet.nd rfl (Or.inl rfl))
      refine n_tupU ?_
      refine na_cons ?_
      refine n_str ?_
      refine na_cons ?_
      refine n_str ?_
      refine na_cons ?_
      refine n_str ?_
      refine na_nil ?_
      refine ⟨_, rfl, rfl, _, rfl, fun j ω4 acc => ω4 = (p2, lstP cols) :: ω ∧ acc.length = j ∧ ∀ x ∈ acc, Fg 300000 11 x, ⟨rfl, rfl, fun x h => by cases h⟩, ?_, ?_⟩
      · rintro j ω4 acc D d0 hd ⟨rfl, hacc, hF⟩ s' H' C cl fp
        have hj : j < 3 := (List.getElem?_eq_some_iff.mp hd).1
        obtain ⟨pl, rfl⟩ : ∃ pl, d0 = .str pl := by
          match j, hd with
          | 0, hd => cases hd; exact ⟨_, rfl⟩
          | 1, hd => cases hd; exact ⟨_, rfl⟩
          | 2, hd => cases hd; exact ⟨_, rfl⟩
        refine n_fn (r_whole_formula T) hr ?_
        refine na_cons ?_
        refine n_var 0 ?_
        refine na_cons ?_
        refine n_var 5 ?_
        refine na_nil ?_
        refine ⟨n + 2, p, pl, rfl, hw, fun d h1 => ⟨d, rfl, by omega, _, rfl, rfl, by rw [List.length_append, hacc]; rfl, fun x hx => ?_⟩⟩
        rcases List.mem_append.mp hx with z | z
        · exact hF x z
        · rw [List.mem_singleton.mp z]; exact h1
      rintro ω4 ds ⟨rfl, hl3, hF⟩
      match ds, hl3, hF with
      | [a, b, c], hl3, hF =>
        exact ⟨[a, b, c], .inl rfl, cols, _, rfl, rfl, by omega, _, _, _, _, rfl, by rw [List.length_append, hl]; rfl, done ⟨a, b, c, rfl, hF a (by simp), hF b (by simp), hF c (by simp)⟩, rfl⟩
  · rintro ω2 δ2 ⟨cols, x3, x4, x5, rfl, hl, hc, rfl⟩
    refine b_share 2 rfl ?_
    refine b_one ?_
    refine s_ret ?_
    refine n_var 2 ?_
    exact q cols hc (by omega)
end

section
variable {P : Program} {w : World} {K : PySem.W.Frag} {mg : Str → Option Value} {base : Heap}
/-! ## things bent -/
def elB (d : PyData) : Bool := d.showable && decide (d.depth ≤ 20) && decide (lenB d ≤ 300000)
theorem el_of {d : PyData} (h : elB d = true) : El d := by
  rw [elB, Bool.and_eq_true, Bool.and_eq_true] at h
  exact ⟨h.1.1, of_decide_eq_true h.1.2, of_decide_eq_true h.2⟩
def GL (k : Nat) (L : LL) : Prop := L.length = k ∧ ∀ x ∈ L, x.2.length = 3 ∧ ∀ y ∈ x.2, El y
def Good (k : Nat) (ls : List PyData) : Prop := ls.length = k ∧ ∀ c ∈ ls, Cl c
theorem gl_good {k : Nat} {L : LL} (h : GL k L) : Good k (lolD L) := ⟨by rw [lolD, List.length_map]; exact h.1, fun c hc => by
  obtain ⟨x, hx, rfl⟩ := List.mem_map.mp hc
  obtain ⟨h1, h2⟩ := h.2 x hx
  exact (cl_list h2 (by omega)).1⟩
theorem good_set {k i : Nat} {ls : List PyData} {d : PyData} (h : Good k ls) (hd : Cl d) : Good k (ls.set i d) := ⟨by rw [List.length_set]; exact h.1, fun c hc => (List.mem_or_eq_of_mem_set hc).elim (h.2 c) fun z => by rw [z]; exact hd⟩
theorem ixn_of {n : Nat} {a : Int} (h0 : 0 ≤ a) (h1 : a < (n : Int)) : ixN n a = some a.toNat := by
  have := ix_nat (n := n) (j := a.toNat) (by omega)
  rwa [show ((a.toNat : Nat) : Int) = a from Int.toNat_of_nonneg h0] at this
theorem gl_at {k : Nat} {L : LL} (h : GL k L) {a : Int} (h0 : 0 ≤ a) (h1 : a < (k : Int)) : ∃ q ds, L[a.toNat]? = some (q, ds) ∧ atI (lolD L) a = some (.list ds) := by
  have hl : a.toNat < L.length := by rw [h.1]; omega
  refine ⟨L[a.toNat].1, L[a.toNat].2, List.getElem?_eq_getElem hl, ?_⟩
  unfold atI
  rw [lolD, List.length_map, ixn_of h0 (by rw [h.1]; exact h1)]
  show (L.map _)[a.toNat]? = _
  rw [List.getElem?_map, List.getElem?_eq_getElem hl]
  rfl
theorem gl_atA {k : Nat} {L : LL} (h : GL k L) {a : Int} {q : Addr} {ds : List PyData} (hL : L[a.toNat]? = some (q, ds)) (h0 : 0 ≤ a) : atI (L.map (·.1)) a = some q := by
  have hl := (List.getElem?_eq_some_iff.mp hL).1
  unfold atI
  rw [List.length_map, ixn_of h0 (by omega)]
  show (L.map _)[a.toNat]? = _
  rw [List.getElem?_map, hL]
  rfl
theorem gl_ix {k : Nat} {L : LL} (h : GL k L) {a : Int} (h0 : 0 ≤ a) (h1 : a < (k : Int)) : ixN (lolD L).length a = some a.toNat := by
  rw [lolD, List.length_map, h.1]
  exact ixn_of h0 h1
theorem gl_set {k i j : Nat} {L : LL} {q : Addr} {ds : List PyData} {d : PyData} (h : GL k L) (hL : L[i]? = some (q, ds)) (hd : El d) : GL k (L.set i (q, ds.set j d)) := by
  obtain ⟨h1, h2⟩ := h.2 _ (List.mem_of_getElem? hL)
  refine ⟨by rw [List.length_set]; exact h.1, fun x hx => (List.mem_or_eq_of_mem_set hx).elim (h.2 x) fun z => ?_⟩
  subst z
  exact ⟨by show (ds.set j d).length = 3; rw [List.length_set]; exact h1, fun y hy => (List.mem_or_eq_of_mem_set hy).elim (h2 y) fun z => by rw [z]; exact hd⟩
theorem lol_past {L : LL} {ω : Ow} {x y : Addr × OwnP} {n : Nat} (h : ω[n]? = some x) : ((y :: (lolO L ++ ω)) : Ow)[n + L.length + 1]? = some x := by
  show (lolO L ++ ω)[n + L.length]? = _
  rw [List.getElem?_append_right (by simp [lolO])]
  simpa [lolO] using h
theorem in34 {k : Int} (h : k < 3) : inD (.int k) [.int 3, .int 4] = false := by
  unfold inD inV
  simp only [List.map, valD, List.any_cons, List.any_nil, Bool.or_false]
  have h1 : ∀ m : Int, 3 ≤ m → eqV (V.int m) (V.int k) = false := fun m hm => by
    show decide (m = k) = false
    exact decide_eq_false (by omega)
  rw [h1 3 (by omega), h1 4 (by omega)]
  rfl
def bentC : Con := fun cs ω Φ => ∃ (n : Nat) (p : Addr) (cols : List PyData), cs = [.raw (.ref p), .dat (.list cols)] ∧ ω[n]? = some (p, bagP) ∧ cols ≠ [] ∧ cols.length ≤ 4 ∧ (∀ c ∈ cols, Cl c ∧ ∃ xs, seqD c = some xs ∧ xs.length = 3) ∧ ∀ ds, (∀ c ∈ ds, Cl c) → ds.length ≤ 4 → Φ ω (.dat (.list ds))
theorem r_bent (T : Txt K mg) : Rdy P w K mg base 14 "_law_bent" ["bag", "columns"] bentC := by
  refine rdy (k := 13) T._law_bent_ sc__law_bent (fun cs ω Φ ⟨_, _, _, e, _⟩ => by rw [e]; rfl) fun X f cdv A outer s H E hX hr cs ω Φ ⟨n, p, cols, e, hw, hne, hcl, hc, q⟩ => ?_
  have hu := room_u64 hr
  have hpos : cols.length ≠ 0 := fun z => hne (List.length_eq_zero_iff.mp z)
  subst hX; subst e
  refine b_cons ?_
  refine s_par 2 3 rfl sc__law_bent.nd ?_
  refine na_cons ?_
  refine n_lcLL 4 rfl sc__law_bent.nd (blkOk_by (N := N__law_bent) (sc := defScope s__law_bent) (by decide +kernel)) ?_ (fun s' H' C cl fp => pg_name (i := 4) sc__law_bent.nd rfl (Or.inl rfl))
  refine n_var 1 ⟨cols, rfl, by omega, itm, ?_, fun D L0 hL => ?_⟩
  · rintro d0 hd0 ω2 s' H' C cl fp
    refine n_listOfO T.z_list ?_
    refine n_var 4 ?_
    obtain ⟨_, xs, hx, _⟩ := hc d0 hd0
    refine ⟨xs, ?_, fun p => ⟨p, rfl, by rw [itm, hx]; rfl⟩⟩
    cases d0 <;> cases hx
    · exact .inl rfl
    · exact .inr rfl
  have hG0 : GL cols.length L0 := by
    refine ⟨by have := congrArg List.length hL; simpa using this, fun x hx => ?_⟩
    have hm : x.2 ∈ cols.map itm := by rw [← hL]; exact List.mem_map.mpr ⟨x, hx, rfl⟩
    obtain ⟨c, hcm, hce⟩ := List.mem_map.mp hm
    obtain ⟨hcl2, xs, hxs, h3⟩ := hc c hcm
    have : x.2 = xs := by rw [← hce, itm, hxs]; rfl
    rw [this]
    exact ⟨h3, hcl2.el xs hxs⟩
  refine na_cons ?_
  refine n_fn (r_take T) hr ?_
  refine na_cons ?_
  refine n_var 0 ?_
  refine na_cons ?_
  refine n_len T.z_len ?_
  refine n_var 1 ?_
  refine ⟨_, _, rfl, rfl, na_nil ⟨n + L0.length + 1, p, _, rfl, lol_past hw, by omega, by omega, fun at_ a0 a1 => na_nil ⟨_, _, rfl, ?_⟩⟩⟩
  refine b_cons ?_
  refine s_par 5 6 rfl sc__law_bent.nd ?_
  refine na_cons ?_
  refine n_fn (r_take T) hr ?_
  refine na_cons ?_
  refine n_var 0 ?_
  refine na_cons ?_
  refine n_int ?_
  refine na_nil ?_
  refine ⟨n + L0.length + 1, p, _, rfl, lol_past hw, by decide, by decide, fun kd k0 k1 => ?_⟩
  refine na_cons ?_
  refine n_fn (r_take T) hr ?_
  refine na_cons ?_
  refine n_var 0 ?_
  refine na_cons ?_
  refine n_int ?_
  refine na_nil ?_
  refine ⟨n + L0.length + 1, p, _, rfl, lol_past hw, by decide, by decide, fun pc p0 p1 => na_nil ⟨_, _, rfl, ?_⟩⟩
  obtain ⟨M, hM⟩ : ∃ M : Int → Ow → DL.Env → Prop, M = fun k ω' δ' => δ' = ([some (.raw (.ref p)), some (.dat (.list cols)), some (.raw (.ref D)), some (.dat (.int at_)), none, some (.dat (.int kd)), some (.dat (.int pc))] : DL.Env) ∧ ((∃ L : LL, GL cols.length L ∧ ω' = (D, rawP (L.map (·.1))) :: (lolO L ++ ω)) ∨ (kd < k ∧ ∃ ls, Good cols.length ls ∧ ω' = (D, lstP ls) :: ω)) := ⟨_, rfl⟩
  have s0 : M 0 ((D, rawP (L0.map (·.1))) :: (lolO L0 ++ ω)) ([some (.raw (.ref p)), some (.dat (.list cols)), some (.raw (.ref D)), some (.dat (.int at_)), none, some (.dat (.int kd)), some (.dat (.int pc))] : DL.Env) := by rw [hM]; exact ⟨rfl, .inl ⟨L0, hG0, rfl⟩⟩
  revert s0
  show M 0 _ _ → B _ _ ([some (.raw (.ref p)), some (.dat (.list cols)), some (.raw (.ref D)), some (.dat (.int at_)), none, some (.dat (.int kd)), some (.dat (.int pc))] : DL.Env) _ _
  generalize (((D, rawP (L0.map (·.1))) :: (lolO L0 ++ ω)) : Ow) = ω0
  generalize ([some (.raw (.ref p)), some (.dat (.list cols)), some (.raw (.ref D)), some (.dat (.int at_)), none, some (.dat (.int kd)), some (.dat (.int pc))] : DL.Env) = δ0
  intro s0
  refine b_mid (M 1) ?_ ?_
  · rw [hM] at s0
    obtain ⟨rfl, ⟨L, hGL, rfl⟩ | ⟨hlt, ls, hg, rfl⟩⟩ := s0
    rotate_left
    · rw [hM]
      refine s_if ?_
      refine nt_eq hu ?_
      refine n_var 5 ?_
      refine n_int ?_
      refine ⟨_, _, rfl, rfl, rfl, rfl, ?_⟩
      rw [eqv_ints]
      exact bIfn (beq_eq_false_iff_ne.mpr (by omega)) (b_nil ⟨rfl, .inr ⟨by omega, ls, hg, rfl⟩⟩)
    · rw [hM]
      refine s_if ?_
      refine nt_eq hu ?_
      refine n_var 5 ?_
      refine n_int ?_
      refine ⟨_, _, rfl, rfl, rfl, rfl, ?_⟩
      rw [eqv_ints]
      refine ite2 (fun hk => ?_) (fun _ => b_nil ⟨rfl, .inl ⟨L, hGL, rfl⟩⟩)
      have hk' := eq_of_beq hk
      obtain ⟨q, ds, hLk, had⟩ := gl_at hGL a0 (by omega)
      obtain ⟨hl3, hel⟩ : ds.length = 3 ∧ ∀ y ∈ ds, El y := hGL.2 _ (List.mem_of_getElem? hLk)
      refine b_absorb ?_
      refine b_one ?_
      refine s_setO 2 0 rfl ?_
      refine n_catL ?_
      refine n_ixO (fun _ _ => rfl) 2 0 rfl ?_
      refine n_var 3 ?_
      refine ⟨_, _, _, rfl, rfl, had, ?_⟩
      refine n_slL ?_
      refine n_ixO (fun _ _ => rfl) 2 0 rfl ?_
      refine n_var 3 ?_
      refine ⟨_, _, _, rfl, rfl, had, ?_⟩
      show N _ _ _ _ _
      refine n_int ?_
      refine ⟨1, rfl, ds, rfl, ds, _, rfl, rfl, ?_, ?_⟩
      · have := cut_len ds none (some 1); omega
      refine n_var 3 ?_
      refine ⟨_, _, _, _, rfl, rfl, rfl, gl_ix hGL a0 (by omega), rfl, .inr ⟨by omega, _, good_set (gl_good hGL) ?_, rfl⟩⟩
      refine (cl_list (fun x hx => ?_) ?_).1
      · rcases List.mem_append.mp hx with z | z
        · exact hel x z
        · exact hel x (cut_mem z)
      · rw [List.length_append, hl3, show cutD ds none (some 1) = ds.take 1 from cut_take ds 1, List.length_take, hl3]
        decide
  intro ω1 δ1 s1
  refine b_mid (M 2) ?_ ?_
  · rw [hM] at s1
    obtain ⟨rfl, ⟨L, hGL, rfl⟩ | ⟨hlt, ls, hg, rfl⟩⟩ := s1
    rotate_left
    · rw [hM]
      refine s_if ?_
      refine nt_eq hu ?_
      refine n_var 5 ?_
      refine n_int ?_
      refine ⟨_, _, rfl, rfl, rfl, rfl, ?_⟩
      rw [eqv_ints]
      exact bIfn (beq_eq_false_iff_ne.mpr (by omega)) (b_nil ⟨rfl, .inr ⟨by omega, ls, hg, rfl⟩⟩)
    · rw [hM]
      refine s_if ?_
      refine nt_eq hu ?_
      refine n_var 5 ?_
      refine n_int ?_
      refine ⟨_, _, rfl, rfl, rfl, rfl, ?_⟩
      rw [eqv_ints]
      refine ite2 (fun hk => ?_) (fun _ => b_nil ⟨rfl, .inl ⟨L, hGL, rfl⟩⟩)
      have hk' := eq_of_beq hk
      obtain ⟨q, ds, hLk, had⟩ := gl_at hGL a0 (by omega)
      obtain ⟨hl3, hel⟩ : ds.length = 3 ∧ ∀ y ∈ ds, El y := hGL.2 _ (List.mem_of_getElem? hLk)
      obtain ⟨x0, x1, x2, rfl⟩ : ∃ a b c, ds = [a, b, c] := by
        match ds, hl3 with
        | [a, b, c], _ => exact ⟨a, b, c, rfl⟩
      refine b_absorb ?_
      refine b_one ?_
      refine s_setO 2 0 rfl ?_
      refine n_fn (r_one T) hr ?_
      refine na_cons ?_
      refine n_var 0 ?_
      refine na_cons ?_
      refine n_lstU ?_
      refine na_cons ?_
      refine n_slL ?_
      refine n_ixO (fun _ _ => rfl) 2 0 rfl ?_
      refine n_var 3 ?_
      refine ⟨_, _, _, rfl, rfl, had, ?_⟩
      show N _ _ _ _ _
      refine n_int ?_
      refine ⟨2, rfl, _, rfl, ?_⟩
      refine na_cons ?_
      refine n_lst ?_
      refine na_nil ?_
      refine ⟨[], rfl, by decide, ?_⟩
      refine na_cons ?_
      refine n_non ?_
      refine na_cons ?_
      refine n_str ?_
      refine na_cons ?_
      refine n_dict1 fun pd => ?_
      refine n_int ⟨_, .inl 0, rfl, rfl, ?_⟩
      refine n_int ⟨_, _, rfl, rfl, ?_⟩
      refine na_cons ?_
      refine n_tupU ?_
      refine na_cons ?_
      refine n_str ?_
      refine na_nil ?_
      refine ⟨_, rfl, rfl, ?_⟩
      refine na_cons ?_
      refine n_ixl (fun _ _ => rfl) ?_
      refine n_ixO (fun _ _ => rfl) 2 0 rfl ?_
      refine n_var 3 ?_
      refine ⟨_, _, _, rfl, rfl, had, ?_⟩
      refine n_int ⟨_, _, x0, rfl, rfl, atI_0, ?_⟩
      refine na_nil ?_
      refine ⟨_, rfl, rfl, na_nil ⟨n + 1, p, _, rfl, hw, List.cons_ne_nil _ _, Nat.le_of_ble_eq_true rfl, fun d hd => ?_⟩⟩
      refine n_var 3 ?_
      refine ⟨_, _, _, _, rfl, rfl, rfl, gl_ix hGL a0 (by omega), rfl, .inr ⟨by omega, _, good_set (gl_good hGL) ?_, rfl⟩⟩
      simp only [List.mem_cons, List.not_mem_nil, or_false] at hd
      have el0 : ∀ d, elB d = true → Cl d := fun d h => (el_of h).cl
      rcases hd with rfl | rfl | rfl | rfl | rfl | rfl | rfl
      · refine (cl_list (fun x hx => hel x ?_) (Nat.le_of_ble_eq_true rfl)).1
        exact cut_mem (xs := [x0, x1, x2]) (i := none) (j := some 2) hx
      · exact el0 _ (by decide +kernel)
      · exact el0 _ (by decide +kernel)
      · exact el0 _ (by decide +kernel)
      · exact el0 _ (by decide +kernel)
      · exact el0 _ (by decide +kernel)
      · exact (hel _ List.mem_cons_self).cl
  intro ω2 δ2 s2
  refine b_mid (M 3) ?_ ?_
  · rw [hM] at s2
    obtain ⟨rfl, ⟨L, hGL, rfl⟩ | ⟨hlt, ls, hg, rfl⟩⟩ := s2
    rotate_left
    · rw [hM]
      refine s_if ?_
      refine nt_eq hu ?_
      refine n_var 5 ?_
      refine n_int ?_
      refine ⟨_, _, rfl, rfl, rfl, rfl, ?_⟩
      rw [eqv_ints]
      exact bIfn (beq_eq_false_iff_ne.mpr (by omega)) (b_nil ⟨rfl, .inr ⟨by omega, ls, hg, rfl⟩⟩)
    · rw [hM]
      refine s_if ?_
      refine nt_eq hu ?_
      refine n_var 5 ?_
      refine n_int ?_
      refine ⟨_, _, rfl, rfl, rfl, rfl, ?_⟩
      rw [eqv_ints]
      refine ite2 (fun hk => ?_) (fun _ => b_nil ⟨rfl, .inl ⟨L, hGL, rfl⟩⟩)
      have hk' := eq_of_beq hk
      obtain ⟨q, ds, hLk, had⟩ := gl_at hGL a0 (by omega)
      obtain ⟨hl3, hel⟩ : ds.length = 3 ∧ ∀ y ∈ ds, El y := hGL.2 _ (List.mem_of_getElem? hLk)
      refine b_one ?_
      refine s_setE ?_
      refine n_fn (r_odd T) hr ?_
      refine na_cons ?_
      refine n_var 0 ?_
      refine na_nil ?_
      refine ⟨n + L.length + 1, p, rfl, lol_past hw, fun d hd => ?_⟩
      have hNew : El d := hd.el
      refine n_ixR (fun _ _ => rfl) 2 0 rfl ?_
      refine n_var 3 ?_
      refine ⟨_, _, q, rfl, rfl, gl_atA hGL hLk a0, q, at_.toNat + 1, rfl, ?_⟩
      refine n_var 6 ?_
      refine ⟨ds, _, _, pc.toNat, lol_at hLk, rfl, rfl, ixn_of p0 (by omega), rfl, .inl ⟨L.set at_.toNat (q, ds.set pc.toNat _), ?_, lol_set hLk⟩⟩
      exact gl_set hGL hLk hNew
  intro ω3 δ3 s3
  refine b_mid (M 5) ?_ ?_
  · rw [hM] at s3
    obtain ⟨rfl, ⟨L, hGL, rfl⟩ | ⟨hlt, ls, hg, rfl⟩⟩ := s3
    rotate_left
    · rw [hM]
      refine s_if ?_
      refine nt_in (by rfl) ?_
      refine n_var 5 ?_
      refine n_tupU ?_
      refine na_cons ?_
      refine n_int ?_
      refine na_cons ?_
      refine n_int ?_
      refine na_nil ?_
      refine ⟨_, rfl, rfl, _, _, rfl, .inl rfl, rfl, rfl, ?_⟩
      refine bIfn (in34 ?_) (b_nil ⟨rfl, .inr ⟨by omega, ls, hg, rfl⟩⟩)
      omega
    · rw [hM]
      refine s_if ?_
      refine nt_in (by rfl) ?_
      refine n_var 5 ?_
      refine n_tupU ?_
      refine na_cons ?_
      refine n_int ?_
      refine na_cons ?_
      refine n_int ?_
      refine na_nil ?_
      refine ⟨_, rfl, rfl, _, _, rfl, .inl rfl, rfl, rfl, ?_⟩
      refine ite2 (fun hk => ?_) (fun _ => b_nil ⟨rfl, .inl ⟨L, hGL, rfl⟩⟩)
      obtain ⟨q, ds, hLk, had⟩ := gl_at hGL a0 (by omega)
      obtain ⟨hl3, hel⟩ : ds.length = 3 ∧ ∀ y ∈ ds, El y := hGL.2 _ (List.mem_of_getElem? hLk)
      refine b_one ?_
      refine s_setE ?_
      refine n_fn (r_whole_formula T) hr ?_
      refine na_cons ?_
      refine n_var 0 ?_
      refine na_cons ?_
      refine n_fn (r_one T) hr ?_
      refine na_cons ?_
      refine n_var 0 ?_
      refine na_cons ?_
      refine n_lstU ?_
      refine na_cons ?_
      refine n_str ?_
      refine na_cons ?_
      refine n_str ?_
      refine na_cons ?_
      refine n_str ?_
      refine na_nil ?_
      refine ⟨_, rfl, rfl, na_nil ⟨n + L.length + 1, p, _, rfl, lol_past hw, List.cons_ne_nil _ _, Nat.le_of_ble_eq_true rfl, fun d1 hd1 => ?_⟩⟩
      obtain ⟨pl, rfl⟩ : ∃ pl, d1 = .str pl := by
        simp only [List.mem_cons, List.not_mem_nil, or_false] at hd1
        rcases hd1 with rfl | rfl | rfl <;> exact ⟨_, rfl⟩
      refine na_nil ?_
      refine ⟨n + L.length + 1, p, pl, rfl, lol_past hw, fun d hd => ?_⟩
      have hNew : El d := hd.el
      refine n_ixR (fun _ _ => rfl) 2 0 rfl ?_
      refine n_var 3 ?_
      refine ⟨_, _, q, rfl, rfl, gl_atA hGL hLk a0, q, at_.toNat + 1, rfl, ?_⟩
      refine n_var 6 ?_
      refine ⟨ds, _, _, pc.toNat, lol_at hLk, rfl, rfl, ixn_of p0 (by omega), rfl, .inl ⟨L.set at_.toNat (q, ds.set pc.toNat _), ?_, lol_set hLk⟩⟩
      exact gl_set hGL hLk hNew
  intro ω4 δ4 s4
  refine b_mid (M 6) ?_ ?_
  · rw [hM] at s4
    obtain ⟨rfl, ⟨L, hGL, rfl⟩ | ⟨hlt, ls, hg, rfl⟩⟩ := s4
    rotate_left
    · rw [hM]
      refine s_if ?_
      refine nt_eq hu ?_
      refine n_var 5 ?_
      refine n_int ?_
      refine ⟨_, _, rfl, rfl, rfl, rfl, ?_⟩
      rw [eqv_ints]
      exact bIfn (beq_eq_false_iff_ne.mpr (by omega)) (b_nil ⟨rfl, .inr ⟨by omega, ls, hg, rfl⟩⟩)
    · rw [hM]
      refine s_if ?_
      refine nt_eq hu ?_
      refine n_var 5 ?_
      refine n_int ?_
      refine ⟨_, _, rfl, rfl, rfl, rfl, ?_⟩
      rw [eqv_ints]
      refine ite2 (fun hk => ?_) (fun _ => b_nil ⟨rfl, .inl ⟨L, hGL, rfl⟩⟩)
      have hk' := eq_of_beq hk
      obtain ⟨q, ds, hLk, had⟩ := gl_at hGL a0 (by omega)
      obtain ⟨hl3, hel⟩ : ds.length = 3 ∧ ∀ y ∈ ds, El y := hGL.2 _ (List.mem_of_getElem? hLk)
      refine b_one ?_
      refine s_setE ?_
      refine n_tupU ?_
      refine na_cons ?_
      refine n_str ?_
      refine na_cons ?_
      refine n_tupU ?_
      refine na_cons ?_
      refine n_tupU ?_
      refine na_cons ?_
      refine n_str ?_
      refine na_nil ?_
      refine ⟨_, rfl, rfl, ?_⟩
      refine na_cons ?_
      refine n_tupU ?_
      refine na_cons ?_
      refine n_str ?_
      refine na_cons ?_
      refine n_int ?_
      refine na_nil ?_
      refine ⟨_, rfl, rfl, na_nil ⟨_, rfl, rfl, na_nil ⟨_, rfl, rfl, ?_⟩⟩⟩
      have hNew : El (.tuple [.str "sum", .tuple [.tuple [.str "input"], .tuple [.str "number", .int 1]]]) := el_of (by decide +kernel)
      refine n_ixR (fun _ _ => rfl) 2 0 rfl ?_
      refine n_var 3 ?_
      refine ⟨_, _, q, rfl, rfl, gl_atA hGL hLk a0, q, at_.toNat + 1, rfl, ?_⟩
      refine n_var 6 ?_
      refine ⟨ds, _, _, pc.toNat, lol_at hLk, rfl, rfl, ixn_of p0 (by omega), rfl, .inl ⟨L.set at_.toNat (q, ds.set pc.toNat _), ?_, lol_set hLk⟩⟩
      exact gl_set hGL hLk hNew
  intro ω5 δ5 s5
  refine b_mid (M 7) ?_ ?_
  · rw [hM] at s5
    obtain ⟨rfl, ⟨L, hGL, rfl⟩ | ⟨hlt, ls, hg, rfl⟩⟩ := s5
    rotate_left
    · rw [hM]
      refine s_if ?_
      refine nt_eq hu ?_
      refine n_var 5 ?_
      refine n_int ?_
      refine ⟨_, _, rfl, rfl, rfl, rfl, ?_⟩
      rw [eqv_ints]
      exact bIfn (beq_eq_false_iff_ne.mpr (by omega)) (b_nil ⟨rfl, .inr ⟨by omega, ls, hg, rfl⟩⟩)
    · rw [hM]
      refine s_if ?_
      refine nt_eq hu ?_
      refine n_var 5 ?_
      refine n_int ?_
      refine ⟨_, _, rfl, rfl, rfl, rfl, ?_⟩
      rw [eqv_ints]
      refine ite2 (fun hk => ?_) (fun _ => b_nil ⟨rfl, .inl ⟨L, hGL, rfl⟩⟩)
      have hk' := eq_of_beq hk
      obtain ⟨q, ds, hLk, had⟩ := gl_at hGL a0 (by omega)
      obtain ⟨hl3, hel⟩ : ds.length = 3 ∧ ∀ y ∈ ds, El y := hGL.2 _ (List.mem_of_getElem? hLk)
      refine b_absorb ?_
      refine b_one ?_
      refine s_setO 2 0 rfl ?_
      refine n_revL ?_
      refine n_ixO (fun _ _ => rfl) 2 0 rfl ?_
      refine n_var 3 ?_
      refine ⟨_, _, _, rfl, rfl, had, ds, rfl, ?_⟩
      refine n_var 3 ?_
      refine ⟨_, _, _, _, rfl, rfl, rfl, gl_ix hGL a0 (by omega), rfl, .inr ⟨by omega, _, good_set (gl_good hGL) ?_, rfl⟩⟩
      exact (cl_list (fun x hx => hel x (List.mem_reverse.mp hx)) (by rw [List.length_reverse, hl3]; decide)).1
  intro ω6 δ6 s6
  rw [hM] at s6
  obtain ⟨rfl, ⟨L, hGL, rfl⟩ | ⟨hlt, ls, hg, rfl⟩⟩ := s6
  · refine b_absorb ?_
    refine b_share 2 rfl ?_
    refine b_one ?_
    refine s_ret ?_
    refine n_var 2 ?_
    have g := gl_good hGL
    exact q _ g.2 (by rw [g.1]; exact hcl)
  · refine b_share 2 rfl ?_
    refine b_one ?_
    refine s_ret ?_
    refine n_var 2 ?_
    exact q _ hg.2 (by rw [hg.1]; exact hcl)
end

section
variable {P : Program} {w : World} {K : PySem.W.Frag} {mg : Str → Option Value} {base : Heap}
theorem misfit_range : ∀ {ds : List PyData} {k i : Nat} {pl : Str}, misfit ds k = some (i, pl) → i < k + ds.length ∧ pl ∈ P3
  | [], _, _, _, h => by cases h
  | c :: r, k, i, pl, h => by
    rw [misfit] at h
    cases z : badIn (itm c) with
    | none =>
      rw [z] at h
      obtain ⟨h1, h2⟩ := misfit_range (ds := r) h
      exact ⟨by rw [List.length_cons]; omega, h2⟩
    | some p2 =>
      rw [z] at h
      have h' : some (k, p2) = some (i, pl) := h
      cases h'
      refine ⟨by rw [List.length_cons]; omega, ?_⟩
      match hi : itm c, z with
      | [a, b, d], z =>
        rw [badIn] at z
        split at z
        · split at z
          · split at z
            · cases z
            · cases z; simp only [List.mem_cons, true_or, or_true]
          · cases z; simp only [List.mem_cons, true_or, or_true]
        · cases z; simp only [List.mem_cons, true_or, or_true]
theorem neat_nat {i : Nat} (h : i ≤ 100000) : Neat 200 1 (.int (i : Int)) := by
  refine ⟨rfl, (shows_int (k := 20) ?_).mono (by decide), Nat.zero_le _⟩
  show i.log2 ≤ 20
  by_cases z : i = 0
  · rw [z]; decide
  · exact Nat.le_of_lt_succ ((Nat.log2_lt z).mpr (Nat.lt_of_le_of_lt h (by decide)))
theorem neat_w {s : Str} (h1 : showsC 60 (.str s) = true) (h2 : (PyData.str s).canLay0 = true) : Neat 200 1 (.str s) := (neat_str h1 h2).mono (by decide) (by decide)
theorem two_neat {a b : PyData} {n k : Nat} (h1 : Neat n k a) (h2 : Neat n k b) (hk : k < 50) : Neat (4 + 2 * (n + 2)) (k + 1) (.tuple [a, b]) := neat_tuple (ds := [a, b]) (fun d hd => by
  simp only [List.mem_cons, List.not_mem_nil, or_false] at hd
  rcases hd with rfl | rfl <;> assumption) hk
theorem Neat.both {n k : Nat} {d : PyData} (h : Neat n k d) (hk : k ≤ 60) (hn : n ≤ 1000000 := by decide) : SeqAt.shaped d = true ∧ Shows d := ⟨h.shaped (by omega), h.sh.shows hn⟩
theorem out_ok {d : PyData} (h : Hand d) : SeqAt.shaped (outD d) = true ∧ Shows (outD d) := by
  cases ha : areD d
  · rw [res_wrong ha]
    exact (two_neat (neat_w (by decide +kernel) (by decide +kernel)) (neat_nat (i := 0) (by decide)) (by decide)).both (by decide)
  have hl := h.len _ (are_seq ha).1
  cases hm : misfit (itm d) 0 with
  | none =>
    rw [res_told ha hm]
    exact (two_neat (neat_w (by decide +kernel) (by decide +kernel)) (neat_nat (by omega)) (by decide)).both (by decide)
  | some z =>
    obtain ⟨i, pl⟩ := z
    rw [res_fit ha hm]
    obtain ⟨h1, h2⟩ := misfit_range hm
    have hp : Neat 200 1 (.str pl) := by
      rcases p3 h2 with rfl | rfl | rfl <;> exact neat_w (by decide +kernel) (by decide +kernel)
    have g1 : Neat 408 2 (.tuple [.int (i : Int), .str pl]) := two_neat (neat_nat (by omega)) hp (by decide)
    exact (two_neat (n := 408) (k := 2) ((neat_w (by decide +kernel) (by decide +kernel)).mono (by decide) (by decide)) g1 (by decide)).both (by decide)
def tupd : PyData → PyData
  | .list xs => .tuple xs
  | d => d
theorem tupd_out (d : PyData) : outD (tupd d) = outD d := by cases d <;> rfl
theorem tupd_hand {d : PyData} (h : Th d) : Hand (tupd d) := by
  cases d with
  | list xs => exact h.it xs rfl
  | _ => exact h.hand
theorem law_ok {f : Addr} {fd : FuncData} (F : Fun K "law" "law" s_law f fd) (T : Txt K mg) (hD : KdC K w mg "ROWS_THAT_FIT" tabR) (hsm : ∃ m, base.Ns sysModules m) : FnG P w K mg base 200 f fd ["script"] (spD K lawC) := by
  refine FnG.mono (j := 101) (okG (k := 100) F sc_law (fun cs ω Φ h => lawC_len h) fun X cdv A outer s H E hX hg hr cs ω Φ ⟨ns, e, hns, e2, q⟩ => ?_) (by decide)
  have hu := room_u64 hr
  have hu2 := room_u hr
  subst hX; subst e; subst e2
  refine b_cons ?_
  refine s_set 1 sc_law.nd ?_
  refine n_fn (r_bag T) hr ?_
  refine na_cons ?_
  refine n_var 0 ?_
  refine na_nil ?_
  refine ⟨ns, rfl, fun p => ?_⟩
  refine b_cons ?_
  refine s_forR 2 PassesOwn.never rfl sc_law.nd T.z_range ?_
  refine n_int ?_
  refine ⟨8, rfl, by decide, by decide, fun _ ω' δ' => ω' = [(p, bagP)] ∧ ∃ x2 x3 x4 x5 x6 x7 x8 x9, δ' = [some (.scr ns), some (.raw (.ref p)), x2, x3, x4, x5, x6, x7, x8, x9], ⟨rfl, _, _, _, _, _, _, _, _, rfl⟩, ?_, ?_⟩
  rotate_left
  · rintro ω' δ' ⟨rfl, x2, x3, x4, x5, x6, x7, x8, x9, rfl⟩
    refine b_cons ?_
    refine s_set 9 sc_law.nd ?_
    refine n_make T.Sheet_ (m_init T hD).calm hr ?_
    refine na_cons ?_
    refine n_lst ?_
    refine na_nil ?_
    refine ⟨[], rfl, by decide, na_nil fun p2 => ⟨p2, .list [], _, rfl, rfl, ⟨by decide, (fun ds z => by cases z; decide), (fun ds z c hc => by cases z; cases hc)⟩, fun z => absurd z (by decide), fun _ i pl z => (by cases z), fun _ _ => ⟨rfl, _, _, rfl, ?_⟩⟩⟩
    have hs1 : Hand (shD mg []) := ⟨Nat.lt_of_le_of_lt (Nat.le_refl _) (by show 2 < 25; decide), (fun ds z => by cases z), (fun ds z => by cases z)⟩
    have hs2 : Hand (.list [shD mg []]) := ⟨by show 3 < 25; decide, (fun ds z => by cases z; exact Nat.le_of_ble_eq_true rfl), fun ds z c hc xs hx => by
      cases z
      rw [List.mem_singleton.mp hc] at hx
      cases hx⟩
    have o1 : outD (shD mg []) = .tuple [.str "wrong", .int 0] := rfl
    have o2 : outD (.list [shD mg []]) = .tuple [.str "wrong", .int 0] := rfl
    refine b_one ?_
    refine s_ret ?_
    refine n_drop ?_
    refine n_and ?_
    refine n_eq hu ?_
    refine n_fn (r_heard T hD) hr ?_
    refine na_cons ?_
    refine n_var 9 ?_
    refine na_nil ?_
    refine ⟨_, rfl, hs1, ?_⟩
    refine n_tupU ?_
    refine na_cons ?_
    refine n_str ?_
    refine na_cons ?_
    refine n_int ?_
    refine na_nil ?_
    show ∃ ds, _ ∧ _ ∧ ∃ d1 d2, Cell.dat (outD (shD mg [])) = _ ∧ _
    rw [o1]
    refine ⟨_, rfl, rfl, _, _, rfl, rfl, by decide +kernel, by decide +kernel, true, congrArg (fun b => Cell.dat (.bool b)) (show PyData.eqv (.tuple [.str "wrong", .int 0]) (.tuple [.str "wrong", .int 0]) = true by decide +kernel), iteT ?_⟩
    refine n_and ?_
    refine n_eq hu ?_
    refine n_fn (r_heard T hD) hr ?_
    refine na_cons ?_
    refine n_lstU ?_
    refine na_cons ?_
    refine n_var 9 ?_
    refine na_nil ?_
    refine ⟨_, rfl, rfl, na_nil ⟨_, rfl, hs2, ?_⟩⟩
    refine n_tupU ?_
    refine na_cons ?_
    refine n_str ?_
    refine na_cons ?_
    refine n_int ?_
    refine na_nil ?_
    show ∃ ds, _ ∧ _ ∧ ∃ d1 d2, Cell.dat (outD (.list [shD mg []])) = _ ∧ _
    rw [o2]
    refine ⟨_, rfl, rfl, _, _, rfl, rfl, by decide +kernel, by decide +kernel, true, congrArg (fun b => Cell.dat (.bool b)) (show PyData.eqv (.tuple [.str "wrong", .int 0]) (.tuple [.str "wrong", .int 0]) = true by decide +kernel), iteT ?_⟩
    refine n_one ?_
    refine n_eq hu ?_
    refine n_lenI T.z_len (m_len T) hr ?_
    refine n_var 9 ?_
    refine ⟨_, rfl, [], rfl, _, rfl, by decide, by decide, ?_⟩
    refine n_int ?_
    exact ⟨_, _, rfl, rfl, rfl, rfl, p, _, _, rfl, q⟩
  rintro i ω' δ' hi ⟨rfl, x2, x3, x4, x5, x6, x7, x8, x9, rfl⟩
  refine b_cons ?_
  refine s_set 3 sc_law.nd ?_
  refine n_fn (r_sheet T) hr ?_
  refine na_cons ?_
  refine n_var 1 ?_
  refine na_cons ?_
  refine n_int ?_
  refine na_nil ?_
  refine ⟨0, p, 4, rfl, rfl, by decide, by decide, fun cols0 hc0 hl0 => ?_⟩
  refine b_cons ?_
  refine s_forR 4 PassesOwn.never rfl sc_law.nd T.z_range ?_
  refine n_fn (r_take T) hr ?_
  refine na_cons ?_
  refine n_var 1 ?_
  refine na_cons ?_
  refine n_int ?_
  refine na_nil ?_
  refine ⟨0, p, _, rfl, rfl, by decide, by decide, fun v v0 v1 => ⟨v, rfl, by omega, by omega, fun _ ω' δ' => ω' = [(p, bagP)] ∧ ∃ cols y4 y5, (∀ c ∈ cols, Cl c) ∧ cols.length ≤ 4 ∧ δ' = [some (.scr ns), some (.raw (.ref p)), some (.dat (.int (i : Int))), some (.dat (.list cols)), y4, y5, x6, x7, x8, x9], ⟨rfl, cols0, _, _, fun c hc => (hc0 c hc).cl, by omega, rfl⟩, ?_, ?_⟩⟩
  · rintro j ω' δ' hj ⟨rfl, cols, y4, y5, hc, hl, rfl⟩
    refine b_one (s_if ?_)
    refine NT.imp (Φ := fun ω' k => ω' = [(p, bagP)] ∧ (k = true → cols ≠ [] ∧ ∀ c ∈ cols, ∃ xs, seqD c = some xs ∧ xs.length = 3)) ?_ ?_
    · refine nt_w ?_
      refine nw_and ?_
      refine nt_neE hu ?_
      refine n_var 3 ?_
      refine n_lst ?_
      refine na_nil ?_
      refine ⟨[], rfl, by decide, cols, rfl, rfl, ?_⟩
      refine ite2 (fun hne => ?_) (fun _ => ⟨rfl, fun z => by cases z⟩)
      refine nw_and1 (nt_eqE hu ?_)
      refine n_lcLi 5 rfl sc_law.nd (blkOk_by (N := N_law) (sc := defScope s_law) (by decide +kernel)) ?_ (fun s' H' C cl fp => pg_name (i := 5) sc_law.nd rfl (Or.inl rfl))
      refine n_var 3 ⟨cols, rfl, fun m ω4 acc => ω4 = [(p, bagP)] ∧ acc = (cols.take m).filter (fun c => !(match seqD c with | some xs => decide (xs.length = 3) | none => false)), ⟨rfl, rfl⟩, ?_, ?_⟩
      · rintro m ω4 acc D c hcm ⟨rfl, rfl⟩ s' H' C cl fp
        have ft := filt_take1 (p := fun c => !(match seqD c with | some xs => decide (xs.length = 3) | none => false)) hcm
        refine NT.imp (Φ := fun ω' k => ω' = (D, lstP ((cols.take m).filter (fun c => !(match seqD c with | some xs => decide (xs.length = 3) | none => false)))) :: [(p, bagP)] ∧ k = !(match seqD c with | some xs => decide (xs.length = 3) | none => false)) ?_ ?_
        · refine nt_w ?_
          refine nw_or ?_
          refine nt_not ?_
          refine nt_val ?_
          refine n_isi2 .list .tuple T.z_isinstance T.z_list T.z_tuple ?_
          refine n_var 5 ?_
          refine ⟨c, rfl, _, rfl, ?_⟩
          rw [seq_isi]
          cases hx : seqD c with
          | none => exact bIf rfl ⟨rfl, rfl⟩
          | some xs =>
            refine bIfn rfl ?_
            refine nw_or1 ?_
            refine nt_ne hu ?_
            refine n_len T.z_len ?_
            refine n_var 5 ?_
            refine ⟨c, _, rfl, seq_len hx, ?_⟩
            refine n_int ?_
            refine ⟨_, _, rfl, rfl, rfl, rfl, rfl, ?_⟩
            exact len3
        · rintro ω' k ⟨rfl, rfl⟩
          refine ite2 (fun h => ?_) (fun h => ?_)
          · intro s' H' C cl fp
            rw [if_pos h] at ft
            refine n_var 5 ?_
            refine ⟨c, rfl, ?_, _, rfl, rfl, ft.symm⟩
            have g1 := List.length_filter_le (fun c => !(match seqD c with | some xs => decide (xs.length = 3) | none => false)) (cols.take m)
            have g2 := List.length_take_le' m cols
            omega
          · rw [if_neg h, List.append_nil] at ft
            exact ⟨_, rfl, rfl, ft.symm⟩
      rintro ω4 acc ⟨rfl, rfl⟩
      rw [List.take_length]
      refine n_lst ?_
      refine na_nil ?_
      refine ⟨[], rfl, by decide, _, rfl, rfl, rfl, fun z => ⟨of_decide_eq_true hne, fun c hcm => ?_⟩⟩
      have z2 := List.filter_eq_nil_iff.mp (of_decide_eq_true z) c hcm
      cases hx : seqD c with
      | none => rw [hx] at z2; exact absurd rfl z2
      | some xs =>
        rw [hx] at z2
        refine ⟨xs, rfl, ?_⟩
        by_cases h3 : xs.length = 3
        · exact h3
        · exact absurd (by show (!decide (xs.length = 3)) = true; rw [decide_eq_false h3]; rfl) z2
    · rintro ω' k ⟨rfl, hk⟩
      refine ite2 (fun h => ?_) (fun _ => b_nil ⟨rfl, cols, _, _, hc, hl, rfl⟩)
      obtain ⟨hne, h3⟩ := hk h
      refine b_one ?_
      refine s_set 3 sc_law.nd ?_
      refine n_fn (r_bent T) hr ?_
      refine na_cons ?_
      refine n_var 1 ?_
      refine na_cons ?_
      refine n_var 3 ?_
      refine na_nil ?_
      exact ⟨0, p, cols, rfl, rfl, hne, hl, fun c hcm => ⟨hc c hcm, h3 c hcm⟩, fun ds hds hdl => ⟨rfl, ds, _, _, hds, hdl, rfl⟩⟩
  rintro ω' δ' ⟨rfl, cols, y4, y5, hc, hl, rfl⟩
  refine b_mid (fun ω' δ' => ω' = [(p, bagP)] ∧ ∃ d, Th d ∧ δ' = [some (.scr ns), some (.raw (.ref p)), some (.dat (.int (i : Int))), some (.dat d), y4, y5, x6, x7, x8, x9]) ?_ ?_
  · refine s_if ?_
    refine nt_eq hu ?_
    refine n_fn (r_take T) hr ?_
    refine na_cons ?_
    refine n_var 1 ?_
    refine na_cons ?_
    refine n_int ?_
    refine na_nil ?_
    refine ⟨0, p, _, rfl, rfl, by decide, by decide, fun u _ _ => ?_⟩
    refine n_int ⟨_, _, rfl, rfl, rfl, rfl, ?_⟩
    refine ite2 (fun _ => ?_) (fun _ => b_nil ⟨rfl, _, th_list hc hl, rfl⟩)
    refine b_one ?_
    refine s_set 3 sc_law.nd ?_
    refine n_fn (r_odd T) hr ?_
    refine na_cons ?_
    refine n_var 1 ?_
    refine na_nil ?_
    exact ⟨0, p, rfl, rfl, fun d hd => ⟨rfl, d, th_odd hd, rfl⟩⟩
  rintro ω' δ' ⟨rfl, th, hth, rfl⟩
  refine b_cons ?_
  refine s_par 6 7 rfl sc_law.nd ?_
  refine na_cons ?_
  refine n_repr hg hsm hu2 T.z_repr ?_
  refine n_var 3 ?_
  refine ⟨th, rfl, hth.sh, ?_⟩
  refine na_cons ?_
  refine n_fn (r_due T hD) hr ?_
  refine na_cons ?_
  refine n_var 3 ?_
  refine na_nil ?_
  refine ⟨th, rfl, hth.hand, na_nil ⟨_, _, rfl, ?_⟩⟩
  obtain ⟨o1, o2⟩ := out_ok hth.hand
  refine b_cons ?_
  refine s_forT 8 PassesOwn.never rfl sc_law.nd ?_
  refine n_tupU ?_
  refine na_cons ?_
  refine n_var 3 ?_
  refine na_cons ?_
  refine N.imp (Φ := fun ω' c => ω' = [(p, bagP)] ∧ c = .dat (tupd th)) ?_ ?_
  · refine n_ifx (ΦT := fun _ _ => True) ?_
    refine nt_val ?_
    refine n_isi .list T.z_isinstance T.z_list ?_
    refine n_var 3 ?_
    refine ⟨th, rfl, _, rfl, ?_⟩
    refine ite2 (fun h => ?_) (fun h => ?_)
    · obtain ⟨xs, rfl⟩ : ∃ xs, th = .list xs := by cases th <;> first | exact ⟨_, rfl⟩ | cases h
      refine n_tupleOf T.z_tuple ?_
      refine n_var 3 ?_
      exact ⟨xs, .inl rfl, rfl, rfl⟩
    · refine n_var 3 ?_
      refine ⟨rfl, ?_⟩
      cases th <;> first | rfl | exact absurd rfl h
  rintro ω' c ⟨rfl, rfl⟩
  refine na_nil ⟨_, rfl, rfl, _, rfl, fun _ ω' δ' => ω' = [(p, bagP)] ∧ ∃ z8, δ' = [some (.scr ns), some (.raw (.ref p)), some (.dat (.int (i : Int))), some (.dat th), y4, y5, some (.dat (.str th.shown)), some (.dat (outD th)), z8, x9], ⟨rfl, _, rfl⟩, ?_, ?_⟩
  · rintro j ω' δ' d hd ⟨rfl, z8, rfl⟩
    have hcase : Hand d ∧ outD d = outD th := by
      have hm := List.mem_of_getElem? hd
      simp only [List.mem_cons, List.not_mem_nil, or_false] at hm
      rcases hm with rfl | rfl
      · exact ⟨hth.hand, rfl⟩
      · exact ⟨tupd_hand hth, tupd_out th⟩
    refine b_one ?_
    refine s_if ?_
    refine nt_not ?_
    refine nt_val ?_
    refine n_fnG (r_alike T hsm) hg hr ?_
    refine na_cons ?_
    refine n_fn (r_heard T hD) hr ?_
    refine na_cons ?_
    refine n_var 8 ?_
    refine na_nil ?_
    refine ⟨d, rfl, hcase.1, ?_⟩
    refine na_cons ?_
    refine n_var 7 ?_
    refine na_nil ?_
    rw [hcase.2]
    refine ⟨_, rfl, o1, o2, _, rfl, ?_⟩
    exact bIfn rfl (b_nil ⟨rfl, _, rfl⟩)
  rintro ω' δ' ⟨rfl, z8, rfl⟩
  refine b_one ?_
  refine s_if ?_
  refine nt_neS ?_
  refine n_repr hg hsm hu2 T.z_repr ?_
  refine n_var 3 ?_
  refine ⟨th, rfl, hth.sh, ?_⟩
  refine n_var 6 ?_
  refine ⟨_, _, rfl, rfl, ?_⟩
  refine bIfn (by rw [decide_eq_true rfl]; rfl) (b_nil ?_)
  exact ⟨rfl, _, _, _, _, _, _, _, _, rfl⟩
end

end K21

open PySem PySem.W PyProof.Rows L2 DL
set_option maxRecDepth 100000 in
set_option maxHeartbeats 0 in
theorem PySem.Challenge.cw_longsheet_k21_sheets_refused_holds : PySem.Challenge.rw_longsheet_k21_sheets_refused.Holds := by
  w_on; o_law; k_head; (case hw => w_witness2)
  k_fill
  refine DL.law_end (l := PySem.Challenge.rw_longsheet_k21_sheets_refused) (k := 200) (x := "script") rfl rfl ⟨rfl, by decide, by decide⟩ (fun w h Y => PySem.W.kIn_of Y) (by decide +kernel) ?F
  case F =>
    intro w mg fa h KX G hmg
    have f__wall : Has (KOf KX) mg "_wall" K21.s__wall ["k"] := by
      delta L2.KOf
      refine' has_mk KX G ?a ?l ?c ?k (fun _ _ _ _ _ _ us hl => match us, hl with | [_], _ => rfl)
      (case a => k_is); (case l => k_is); (case c => k_is); (case k => k_is)
    have f_is_integer : Has (KOf KX) mg "is_integer" K21.s_is_integer ["thing"] := by
      delta L2.KOf
      refine' has_mk KX G ?a ?l ?c ?k (fun _ _ _ _ _ _ us hl => match us, hl with | [_], _ => rfl)
      (case a => k_is); (case l => k_is); (case c => k_is); (case k => k_is)
    have f_is_number : Has (KOf KX) mg "is_number" K21.s_is_number ["thing"] := by
      delta L2.KOf
      refine' has_mk KX G ?a ?l ?c ?k (fun _ _ _ _ _ _ us hl => match us, hl with | [_], _ => rfl)
      (case a => k_is); (case l => k_is); (case c => k_is); (case k => k_is)
    have f_is_made : Has (KOf KX) mg "is_made" K21.s_is_made ["thing", "word", "many"] := by
      delta L2.KOf
      refine' has_mk KX G ?a ?l ?c ?k (fun _ _ _ _ _ _ us hl => match us, hl with | [_, _, _], _ => rfl)
      (case a => k_is); (case l => k_is); (case c => k_is); (case k => k_is)
    have f_is_name : Has (KOf KX) mg "is_name" K21.s_is_name ["thing"] := by
      delta L2.KOf
      refine' has_mk KX G ?a ?l ?c ?k (fun _ _ _ _ _ _ us hl => match us, hl with | [_], _ => rfl)
      (case a => k_is); (case l => k_is); (case c => k_is); (case k => k_is)
    have f_is_range : Has (KOf KX) mg "is_range" K21.s_is_range ["thing"] := by
      delta L2.KOf
      refine' has_mk KX G ?a ?l ?c ?k (fun _ _ _ _ _ _ us hl => match us, hl with | [_], _ => rfl)
      (case a => k_is); (case l => k_is); (case c => k_is); (case k => k_is)
    have f__is_column_part : Has (KOf KX) mg "_is_column_part" K21.s__is_column_part ["thing"] := by
      delta L2.KOf
      refine' has_mk KX G ?a ?l ?c ?k (fun _ _ _ _ _ _ us hl => match us, hl with | [_], _ => rfl)
      (case a => k_is); (case l => k_is); (case c => k_is); (case k => k_is)
    have f__is_row_part : Has (KOf KX) mg "_is_row_part" K21.s__is_row_part ["thing"] := by
      delta L2.KOf
      refine' has_mk KX G ?a ?l ?c ?k (fun _ _ _ _ _ _ us hl => match us, hl with | [_], _ => rfl)
      (case a => k_is); (case l => k_is); (case c => k_is); (case k => k_is)
    have f__is_way : Has (KOf KX) mg "_is_way" K21.s__is_way ["thing"] := by
      delta L2.KOf
      refine' has_mk KX G ?a ?l ?c ?k (fun _ _ _ _ _ _ us hl => match us, hl with | [_], _ => rfl)
      (case a => k_is); (case l => k_is); (case c => k_is); (case k => k_is)
    have f__is_count : Has (KOf KX) mg "_is_count" K21.s__is_count ["thing", "word"] := by
      delta L2.KOf
      refine' has_mk KX G ?a ?l ?c ?k (fun _ _ _ _ _ _ us hl => match us, hl with | [_, _], _ => rfl)
      (case a => k_is); (case l => k_is); (case c => k_is); (case k => k_is)
    have f__is_end : Has (KOf KX) mg "_is_end" K21.s__is_end ["thing"] := by
      delta L2.KOf
      refine' has_mk KX G ?a ?l ?c ?k (fun _ _ _ _ _ _ us hl => match us, hl with | [_], _ => rfl)
      (case a => k_is); (case l => k_is); (case c => k_is); (case k => k_is)
    have f_is_formula : Has (KOf KX) mg "is_formula" K21.s_is_formula ["thing"] := by
      delta L2.KOf
      refine' has_mk KX G ?a ?l ?c ?k (fun _ _ _ _ _ _ us hl => match us, hl with | [_], _ => rfl)
      (case a => k_is); (case l => k_is); (case c => k_is); (case k => k_is)
    have f_fits : Has (KOf KX) mg "fits" K21.s_fits ["formula", "place"] := by
      delta L2.KOf
      refine' has_mk KX G ?a ?l ?c ?k (fun _ _ _ _ _ _ us hl => match us, hl with | [_, _], _ => rfl)
      (case a => k_is); (case l => k_is); (case c => k_is); (case k => k_is)
    have f_parts : Has (KOf KX) mg "parts" K21.s_parts ["formula"] := by
      delta L2.KOf
      refine' has_mk KX G ?a ?l ?c ?k (fun _ _ _ _ _ _ us hl => match us, hl with | [_], _ => rfl)
      (case a => k_is); (case l => k_is); (case c => k_is); (case k => k_is)
    have f_reads : Has (KOf KX) mg "reads" K21.s_reads ["formula"] := by
      delta L2.KOf
      refine' has_mk KX G ?a ?l ?c ?k (fun _ _ _ _ _ _ us hl => match us, hl with | [_], _ => rfl)
      (case a => k_is); (case l => k_is); (case c => k_is); (case k => k_is)
    have f_is_sign : Has (KOf KX) mg "is_sign" K21.s_is_sign ["thing"] := by
      delta L2.KOf
      refine' has_mk KX G ?a ?l ?c ?k (fun _ _ _ _ _ _ us hl => match us, hl with | [_], _ => rfl)
      (case a => k_is); (case l => k_is); (case c => k_is); (case k => k_is)
    have f_has_input : Has (KOf KX) mg "has_input" K21.s_has_input ["formula"] := by
      delta L2.KOf
      refine' has_mk KX G ?a ?l ?c ?k (fun _ _ _ _ _ _ us hl => match us, hl with | [_], _ => rfl)
      (case a => k_is); (case l => k_is); (case c => k_is); (case k => k_is)
    have f__are_formulas : Has (KOf KX) mg "_are_formulas" K21.s__are_formulas ["things"] := by
      delta L2.KOf
      refine' has_mk KX G ?a ?l ?c ?k (fun _ _ _ _ _ _ us hl => match us, hl with | [_], _ => rfl)
      (case a => k_is); (case l => k_is); (case c => k_is); (case k => k_is)
    have f__read_fits : Has (KOf KX) mg "_read_fits" K21.s__read_fits ["read", "place"] := by
      delta L2.KOf
      refine' has_mk KX G ?a ?l ?c ?k (fun _ _ _ _ _ _ us hl => match us, hl with | [_, _], _ => rfl)
      (case a => k_is); (case l => k_is); (case c => k_is); (case k => k_is)
    have f_is_column : Has (KOf KX) mg "is_column" K21.s_is_column ["sheet", "thing"] := by
      delta L2.KOf
      refine' has_mk KX G ?a ?l ?c ?k (fun _ _ _ _ _ _ us hl => match us, hl with | [_, _], _ => rfl)
      (case a => k_is); (case l => k_is); (case c => k_is); (case k => k_is)
    have f__are_columns : Has (KOf KX) mg "_are_columns" K21.s__are_columns ["things"] := by
      delta L2.KOf
      refine' has_mk KX G ?a ?l ?c ?k (fun _ _ _ _ _ _ us hl => match us, hl with | [_], _ => rfl)
      (case a => k_is); (case l => k_is); (case c => k_is); (case k => k_is)
    have f__law_bag : Has (KOf KX) mg "_law_bag" K21.s__law_bag ["script"] := by
      delta L2.KOf
      refine' has_mk KX G ?a ?l ?c ?k (fun _ _ _ _ _ _ us hl => match us, hl with | [_], _ => rfl)
      (case a => k_is); (case l => k_is); (case c => k_is); (case k => k_is)
    have f__law_take : Has (KOf KX) mg "_law_take" K21.s__law_take ["bag", "many"] := by
      delta L2.KOf
      refine' has_mk KX G ?a ?l ?c ?k (fun _ _ _ _ _ _ us hl => match us, hl with | [_, _], _ => rfl)
      (case a => k_is); (case l => k_is); (case c => k_is); (case k => k_is)
    have f__law_one : Has (KOf KX) mg "_law_one" K21.s__law_one ["bag", "some"] := by
      delta L2.KOf
      refine' has_mk KX G ?a ?l ?c ?k (fun _ _ _ _ _ _ us hl => match us, hl with | [_, _], _ => rfl)
      (case a => k_is); (case l => k_is); (case c => k_is); (case k => k_is)
    have f__law_alike : Has (KOf KX) mg "_law_alike" K21.s__law_alike ["found", "due"] := by
      delta L2.KOf
      refine' has_mk KX G ?a ?l ?c ?k (fun _ _ _ _ _ _ us hl => match us, hl with | [_, _], _ => rfl)
      (case a => k_is); (case l => k_is); (case c => k_is); (case k => k_is)
    have f__law_nested : Has (KOf KX) mg "_law_nested" K21.s__law_nested ["many"] := by
      delta L2.KOf
      refine' has_mk KX G ?a ?l ?c ?k (fun _ _ _ _ _ _ us hl => match us, hl with | [_], _ => rfl)
      (case a => k_is); (case l => k_is); (case c => k_is); (case k => k_is)
    have f__law_odd : Has (KOf KX) mg "_law_odd" K21.s__law_odd ["bag"] := by
      delta L2.KOf
      refine' has_mk KX G ?a ?l ?c ?k (fun _ _ _ _ _ _ us hl => match us, hl with | [_], _ => rfl)
      (case a => k_is); (case l => k_is); (case c => k_is); (case k => k_is)
    have f__law_number : Has (KOf KX) mg "_law_number" K21.s__law_number ["bag"] := by
      delta L2.KOf
      refine' has_mk KX G ?a ?l ?c ?k (fun _ _ _ _ _ _ us hl => match us, hl with | [_], _ => rfl)
      (case a => k_is); (case l => k_is); (case c => k_is); (case k => k_is)
    have f__law_column_part : Has (KOf KX) mg "_law_column_part" K21.s__law_column_part ["bag"] := by
      delta L2.KOf
      refine' has_mk KX G ?a ?l ?c ?k (fun _ _ _ _ _ _ us hl => match us, hl with | [_], _ => rfl)
      (case a => k_is); (case l => k_is); (case c => k_is); (case k => k_is)
    have f__law_range : Has (KOf KX) mg "_law_range" K21.s__law_range ["bag", "place"] := by
      delta L2.KOf
      refine' has_mk KX G ?a ?l ?c ?k (fun _ _ _ _ _ _ us hl => match us, hl with | [_, _], _ => rfl)
      (case a => k_is); (case l => k_is); (case c => k_is); (case k => k_is)
    have f__law_name : Has (KOf KX) mg "_law_name" K21.s__law_name ["bag", "place"] := by
      delta L2.KOf
      refine' has_mk KX G ?a ?l ?c ?k (fun _ _ _ _ _ _ us hl => match us, hl with | [_, _], _ => rfl)
      (case a => k_is); (case l => k_is); (case c => k_is); (case k => k_is)
    have f__law_formula : Has (KOf KX) mg "_law_formula" K21.s__law_formula ["bag", "place", "deep", "left"] := by
      delta L2.KOf
      refine' has_mk KX G ?a ?l ?c ?k (fun _ _ _ _ _ _ us hl => match us, hl with | [_, _, _, _], _ => rfl)
      (case a => k_is); (case l => k_is); (case c => k_is); (case k => k_is)
    have f__law_whole_formula : Has (KOf KX) mg "_law_whole_formula" K21.s__law_whole_formula ["bag", "place"] := by
      delta L2.KOf
      refine' has_mk KX G ?a ?l ?c ?k (fun _ _ _ _ _ _ us hl => match us, hl with | [_, _], _ => rfl)
      (case a => k_is); (case l => k_is); (case c => k_is); (case k => k_is)
    have f__law_is_whole : Has (KOf KX) mg "_law_is_whole" K21.s__law_is_whole ["thing"] := by
      delta L2.KOf
      refine' has_mk KX G ?a ?l ?c ?k (fun _ _ _ _ _ _ us hl => match us, hl with | [_], _ => rfl)
      (case a => k_is); (case l => k_is); (case c => k_is); (case k => k_is)
    have f__law_is_part : Has (KOf KX) mg "_law_is_part" K21.s__law_is_part ["thing"] := by
      delta L2.KOf
      refine' has_mk KX G ?a ?l ?c ?k (fun _ _ _ _ _ _ us hl => match us, hl with | [_], _ => rfl)
      (case a => k_is); (case l => k_is); (case c => k_is); (case k => k_is)
    have f__law_is_name : Has (KOf KX) mg "_law_is_name" K21.s__law_is_name ["thing"] := by
      delta L2.KOf
      refine' has_mk KX G ?a ?l ?c ?k (fun _ _ _ _ _ _ us hl => match us, hl with | [_], _ => rfl)
      (case a => k_is); (case l => k_is); (case c => k_is); (case k => k_is)
    have f__law_is_range : Has (KOf KX) mg "_law_is_range" K21.s__law_is_range ["thing"] := by
      delta L2.KOf
      refine' has_mk KX G ?a ?l ?c ?k (fun _ _ _ _ _ _ us hl => match us, hl with | [_], _ => rfl)
      (case a => k_is); (case l => k_is); (case c => k_is); (case k => k_is)
    have f__law_inner : Has (KOf KX) mg "_law_inner" K21.s__law_inner ["thing"] := by
      delta L2.KOf
      refine' has_mk KX G ?a ?l ?c ?k (fun _ _ _ _ _ _ us hl => match us, hl with | [_], _ => rfl)
      (case a => k_is); (case l => k_is); (case c => k_is); (case k => k_is)
    have f__law_is_formula : Has (KOf KX) mg "_law_is_formula" K21.s__law_is_formula ["thing"] := by
      delta L2.KOf
      refine' has_mk KX G ?a ?l ?c ?k (fun _ _ _ _ _ _ us hl => match us, hl with | [_], _ => rfl)
      (case a => k_is); (case l => k_is); (case c => k_is); (case k => k_is)
    have f__law_reads : Has (KOf KX) mg "_law_reads" K21.s__law_reads ["formula"] := by
      delta L2.KOf
      refine' has_mk KX G ?a ?l ?c ?k (fun _ _ _ _ _ _ us hl => match us, hl with | [_], _ => rfl)
      (case a => k_is); (case l => k_is); (case c => k_is); (case k => k_is)
    have f__law_all_inner : Has (KOf KX) mg "_law_all_inner" K21.s__law_all_inner ["formula"] := by
      delta L2.KOf
      refine' has_mk KX G ?a ?l ?c ?k (fun _ _ _ _ _ _ us hl => match us, hl with | [_], _ => rfl)
      (case a => k_is); (case l => k_is); (case c => k_is); (case k => k_is)
    have f__law_fits : Has (KOf KX) mg "_law_fits" K21.s__law_fits ["formula", "place"] := by
      delta L2.KOf
      refine' has_mk KX G ?a ?l ?c ?k (fun _ _ _ _ _ _ us hl => match us, hl with | [_, _], _ => rfl)
      (case a => k_is); (case l => k_is); (case c => k_is); (case k => k_is)
    have f__law_sheet : Has (KOf KX) mg "_law_sheet" K21.s__law_sheet ["bag", "most"] := by
      delta L2.KOf
      refine' has_mk KX G ?a ?l ?c ?k (fun _ _ _ _ _ _ us hl => match us, hl with | [_, _], _ => rfl)
      (case a => k_is); (case l => k_is); (case c => k_is); (case k => k_is)
    have f__law_heard : Has (KOf KX) mg "_law_heard" K21.s__law_heard ["thing"] := by
      delta L2.KOf
      refine' has_mk KX G ?a ?l ?c ?k (fun _ _ _ _ _ _ us hl => match us, hl with | [_], _ => rfl)
      (case a => k_is); (case l => k_is); (case c => k_is); (case k => k_is)
    have f__law_due : Has (KOf KX) mg "_law_due" K21.s__law_due ["thing"] := by
      delta L2.KOf
      refine' has_mk KX G ?a ?l ?c ?k (fun _ _ _ _ _ _ us hl => match us, hl with | [_], _ => rfl)
      (case a => k_is); (case l => k_is); (case c => k_is); (case k => k_is)
    have f__law_bent : Has (KOf KX) mg "_law_bent" K21.s__law_bent ["bag", "columns"] := by
      delta L2.KOf
      refine' has_mk KX G ?a ?l ?c ?k (fun _ _ _ _ _ _ us hl => match us, hl with | [_, _], _ => rfl)
      (case a => k_is); (case l => k_is); (case c => k_is); (case k => k_is)
    have f_law : Has (KOf KX) mg "law" K21.s_law ["script"] := by
      delta L2.KOf
      refine' has_mk KX G ?a ?l ?c ?k (fun _ _ _ _ _ _ us hl => match us, hl with | [_], _ => rfl)
      (case a => k_is); (case l => k_is); (case c => k_is); (case k => k_is)
    have c_Sheet : HasC (KOf KX) mg "Sheet" := by
      delta L2.KOf
      refine' hasC_mk KX G ?a ⟨⟨?pg, ?hd, ?po, ?sa⟩, ?cg, ?hn, ?tk, ?ob, ?kit⟩ ?kp ?mk
      (case a => k_is); (case pg => k_is); (case hd => k_is); (case po => k_is); (case sa => k_is); (case cg => k_is); (case hn => k_is); (case tk => k_is); (case ob => k_is)
      (case kit => refine' kit_mk ?k1 ?k2 ?k3 ?k4 ?k5 ?k6; (case k1 => k_is); (case k2 => k_is); (case k3 => k_is); (case k4 => k_is); (case k5 => k_is); (case k6 => k_is))
      (case kp => k_is); (case mk => k_is)
    have nf_Sheet__columns : NoAttr (KOf KX) (clsA mg "Sheet") "_columns" := by
      delta L2.KOf
      refine' noA_mk KX G ?a ?n
      (case a => k_is); (case n => k_is)
    have m_Sheet_init : HasM (KOf KX) mg "Sheet" "__init__" "Sheet.__init__" K21.s_Sheet_init ["self", "columns"] := by
      delta L2.KOf
      refine' hasM_mk KX G ?a ?i ?fn ?kp ?l ?c (fun _ _ _ _ _ _ us hl => match us, hl with | [_, _], _ => rfl)
      (case a => k_is); (case i => k_is); (case fn => k_is); (case kp => k_is); (case l => k_is); (case c => k_is)
    have m_Sheet_len : HasM (KOf KX) mg "Sheet" "__len__" "Sheet.__len__" K21.s_Sheet_len ["self"] := by
      delta L2.KOf
      refine' hasM_mk KX G ?a ?i ?fn ?kp ?l ?c (fun _ _ _ _ _ _ us hl => match us, hl with | [_], _ => rfl)
      (case a => k_is); (case i => k_is); (case fn => k_is); (case kp => k_is); (case l => k_is); (case c => k_is)
    have x_Wrong : HasX (KOf KX) mg "Wrong" "place" K21.s_Wrong_init ["self", "place"] := by
      delta L2.KOf
      refine' hasX_mk (qual := "Wrong.__init__") KX G ?a ?xL ?hbm ?sa ?exC ?tyC ?kC ?ga ?gg ?hdC ?no ?iC ?tI ?kI ?l ?c (fun _ _ _ _ _ _ us hl => match us, hl with | [_, _], _ => rfl)
      (case a => k_is); (case xL => k_is); (case hbm => decide +kernel); (case sa => k_is); (case exC => k_is); (case tyC => k_is); (case kC => k_is); (case ga => k_is); (case gg => k_is); (case hdC => k_is); (case no => k_is)
      (case iC => k_is); (case tI => k_is); (case kI => k_is); (case l => k_is); (case c => k_is)
    have x_NoFit : HasX (KOf KX) mg "NoFit" "place" K21.s_NoFit_init ["self", "place"] := by
      delta L2.KOf
      refine' hasX_mk (qual := "NoFit.__init__") KX G ?a ?xL ?hbm ?sa ?exC ?tyC ?kC ?ga ?gg ?hdC ?no ?iC ?tI ?kI ?l ?c (fun _ _ _ _ _ _ us hl => match us, hl with | [_, _], _ => rfl)
      (case a => k_is); (case xL => k_is); (case hbm => decide +kernel); (case sa => k_is); (case exC => k_is); (case tyC => k_is); (case kC => k_is); (case ga => k_is); (case gg => k_is); (case hdC => k_is); (case no => k_is)
      (case iC => k_is); (case tI => k_is); (case kI => k_is); (case l => k_is); (case c => k_is)
    have ex_Wrong_Wrong : PySem.W.exmOne (KOf KX) (.ref (clsA mg "Wrong")) (.ref (clsA mg "Wrong")) = some true := by
      delta L2.KOf
      refine' exm_mk KX G ?a1 ?a2 ?h1 ?h2 ?h3 ?h4
      (case a1 => k_is); (case a2 => k_is); (case h1 => k_is); (case h2 => k_is); (case h3 => k_is); (case h4 => k_is)
    have ex_NoFit_Wrong : PySem.W.exmOne (KOf KX) (.ref (clsA mg "NoFit")) (.ref (clsA mg "Wrong")) = some false := by
      delta L2.KOf
      refine' exm_mk KX G ?a1 ?a2 ?h1 ?h2 ?h3 ?h4
      (case a1 => k_is); (case a2 => k_is); (case h1 => k_is); (case h2 => k_is); (case h3 => k_is); (case h4 => k_is)
    have ex_NoFit_NoFit : PySem.W.exmOne (KOf KX) (.ref (clsA mg "NoFit")) (.ref (clsA mg "NoFit")) = some true := by
      delta L2.KOf
      refine' exm_mk KX G ?a1 ?a2 ?h1 ?h2 ?h3 ?h4
      (case a1 => k_is); (case a2 => k_is); (case h1 => k_is); (case h2 => k_is); (case h3 => k_is); (case h4 => k_is)
    have z_isinstance : mg "isinstance" = none := PySem.W.mg_none_of KX G (by k_is)
    have z_int : mg "int" = none := PySem.W.mg_none_of KX G (by k_is)
    have z_bool : mg "bool" = none := PySem.W.mg_none_of KX G (by k_is)
    have z_str : mg "str" = none := PySem.W.mg_none_of KX G (by k_is)
    have z_tuple : mg "tuple" = none := PySem.W.mg_none_of KX G (by k_is)
    have z_list : mg "list" = none := PySem.W.mg_none_of KX G (by k_is)
    have z_len : mg "len" = none := PySem.W.mg_none_of KX G (by k_is)
    have z_range : mg "range" = none := PySem.W.mg_none_of KX G (by k_is)
    have z_abs : mg "abs" = none := PySem.W.mg_none_of KX G (by k_is)
    have z_repr : mg "repr" = none := PySem.W.mg_none_of KX G (by k_is)
    have z_all : mg "all" = none := PySem.W.mg_none_of KX G (by k_is)
    have z_any : mg "any" = none := PySem.W.mg_none_of KX G (by k_is)
    have z_enumerate : mg "enumerate" = none := PySem.W.mg_none_of KX G (by k_is)
    have z_zip : mg "zip" = none := PySem.W.mg_none_of KX G (by k_is)
    have c_FARTHEST : CD (KOf KX) mg "FARTHEST" (.int 1000000000000) := by (delta L2.KOf; exact cd_int KX G (by k_is))
    have c_SIGNS : CD (KOf KX) mg "SIGNS" (.tuple [.str "=", .str "<>", .str "<", .str "<=", .str ">", .str ">="]) := by (delta L2.KOf; refine' cd_tup KX G ?e ?l ?r; (case e => k_is); (case l => k_is); (case r => exact .cons (.str _ _) (.cons (.str _ _) (.cons (.str _ _) (.cons (.str _ _) (.cons (.str _ _) (.cons (.str _ _) .nil)))))))
    have c_GATHERING : CD (KOf KX) mg "GATHERING" (.tuple [.str "sum", .str "most", .str "least"]) := by (delta L2.KOf; refine' cd_tup KX G ?e ?l ?r; (case e => k_is); (case l => k_is); (case r => exact .cons (.str _ _) (.cons (.str _ _) (.cons (.str _ _) .nil))))
    have c_RANGING : CD (KOf KX) mg "RANGING" (.tuple [.str "total", .str "many", .str "top", .str "low"]) := by (delta L2.KOf; refine' cd_tup KX G ?e ?l ?r; (case e => k_is); (case l => k_is); (case r => exact .cons (.str _ _) (.cons (.str _ _) (.cons (.str _ _) (.cons (.str _ _) .nil)))))
    have c_PLACES : CD (KOf KX) mg "PLACES" (.tuple [.str "head", .str "body", .str "foot"]) := by (delta L2.KOf; refine' cd_tup KX G ?e ?l ?r; (case e => k_is); (case l => k_is); (case r => exact .cons (.str _ _) (.cons (.str _ _) (.cons (.str _ _) .nil))))
    have g_SheetError : AtC (KOf KX) mg "SheetError" := by (delta L2.KOf; exact at_mk KX G (by k_is))
    have T : K21.Txt (KOf KX) mg := ⟨f__wall, f_is_integer, f_is_number, f_is_made, f_is_name, f_is_range, f__is_column_part, f__is_row_part, f__is_way, f__is_count, f__is_end, f_is_formula, f_fits, f_parts, f_reads, f_is_sign, f_has_input, f__are_formulas, f__read_fits, f_is_column, f__are_columns, f__law_bag, f__law_take, f__law_one, f__law_alike, f__law_nested, f__law_odd, f__law_number, f__law_column_part, f__law_range, f__law_name, f__law_formula, f__law_whole_formula, f__law_is_whole, f__law_is_part, f__law_is_name, f__law_is_range, f__law_inner, f__law_is_formula, f__law_reads, f__law_all_inner, f__law_fits, f__law_sheet, f__law_heard, f__law_due, f__law_bent, f_law, c_Sheet, nf_Sheet__columns, m_Sheet_init, m_Sheet_len, x_Wrong, x_NoFit, ex_Wrong_Wrong, ex_NoFit_Wrong, ex_NoFit_NoFit, z_isinstance, z_int, z_bool, z_str, z_tuple, z_list, z_len, z_range, z_abs, z_repr, z_all, z_any, z_enumerate, z_zip, c_FARTHEST, c_SIGNS, c_GATHERING, c_RANGING, c_PLACES, g_SheetError⟩
    have hD : KdC (KOf KX) w mg "ROWS_THAT_FIT" K21.tabR := by
      delta L2.KOf
      refine' kd_mk KX G ?e ?l ?k ?r
      (case e => k_is)
      (case l => k_is)
      (case k => exact ⟨⟨_, _, rfl, rfl⟩, ⟨_, _, rfl, rfl⟩, ⟨_, _, rfl, rfl⟩, trivial⟩)
      (case r =>
        intro q hq
        simp only [K21.tabR, List.mem_cons, List.not_mem_nil, or_false] at hq
        rcases hq with rfl | rfl | rfl
        · refine' kd_tup ?e1 ?l1 ?r1
          (case e1 => k_is)
          (case l1 => k_is)
          (case r1 => exact .cons (.str _ _) .nil)
        · refine' kd_tup ?e2 ?l2 ?r2
          (case e2 => k_is)
          (case l2 => k_is)
          (case r2 => exact .cons (.str _ _) (.cons (.str _ _) .nil))
        · refine' kd_tup ?e3 ?l3 ?r3
          (case e3 => k_is)
          (case l3 => k_is)
          (case r3 => exact .cons (.str _ _) (.cons (.str _ _) (.cons (.str _ _) .nil))))
    obtain ⟨f, fd, F, hf, hb⟩ := f_law.ex
    have e := hmg.symm.trans hf
    cases e
    exact ⟨fd, law_binds F (fun _ _ _ _ _ _ _ => rfl), fun base _ _ hsm => K21.law_ok F T hD hsm⟩
