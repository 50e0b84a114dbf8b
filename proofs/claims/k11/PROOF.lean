import PyProof.Rows.All
import Wide.All
import OpenK.AllK
import Wide.FinOn
import PyProof.StrLawsRepr
import HandS.ForMost
import HandS.IsInst
import HandS.Deep
import HandS.EndBits
import HandS.Flow
import HandS.TupAny
import HandS.TupMul
import HandS.Small
import HandS.Wide
import PySem.Challenge.RW_longsheet_k11_values_known
set_option Elab.async false
set_option linter.all false
set_option maxRecDepth 100000
set_option maxHeartbeats 4000000
namespace DL
open PySem PySem.Spec L2

/-! ## runs: the need of a piece of syntax, said by the piece itself -/
def WE (X : Cx) (e : Expr) (σ : St) (H : Hp) (Q : VK) : Prop :=
  ∀ pins s, Inv X pins σ H s → wpAny (model X.prog X.w) X.A (eval e X.env) (EP X pins σ Q) X.xe s
def WT (X : Cx) (e : Expr) (σ : St) (H : Hp) (Q : Bool → Hp → Prop) : Prop :=
  ∀ pins s, Inv X pins σ H s → wpAny (model X.prog X.w) X.A (isTrue e X.env (eval e X.env)) (TP X pins σ Q) X.xe s
def WA (X : Cx) (es : List Expr) (σ : St) (H : Hp) (Q : List V → Hp → Prop) : Prop :=
  ∀ (pos : Pos) pins s, Inv X pins σ H s → wpAny (model X.prog X.w) X.A (spliced (backTo pos (starEach es X.env))) (AP X pins σ Q) X.xe s
def WS (X : Cx) (st : Stmt) (D : Ends) (σ : St) (H : Hp) : Prop :=
  ∀ pins s, Inv X pins σ H s → wpAny (model X.prog X.w) X.A (exec st X.env) (SP X pins D) X.xe s
def WB (X : Cx) (st : List Stmt) (D : Ends) (σ : St) (H : Hp) : Prop :=
  ∀ pins s, Inv X pins σ H s → wpAny (model X.prog X.w) X.A (execs st X.env) (SP X pins D) X.xe s
section
variable {X : Cx} {σ : St} {H : Hp}
theorem WE.pe (X : Cx) (e : Expr) : PE X e (WE X e) := ⟨fun pins s _ _ _ I h => h pins s I⟩
theorem WT.pt (X : Cx) (e : Expr) : PT X e (WT X e) := ⟨fun pins s _ _ _ I h => h pins s I⟩
theorem WA.pa (X : Cx) (es : List Expr) : PA X es (WA X es) := ⟨fun pos pins s _ _ _ I h => h pos pins s I⟩
theorem WS.ps (X : Cx) (st : Stmt) : PS X st (WS X st) := ⟨fun pins s _ _ _ I h => h pins s I⟩
theorem WB.pss (X : Cx) (st : List Stmt) : PSs X st (WB X st) := ⟨fun pins s _ _ _ I h => h pins s I⟩
theorem WE.of {e : Expr} {t : TE} (p : PE X e t) {Q : VK} (q : t σ H Q) : WE X e σ H Q := fun pins s I => p.run pins s σ H Q I q
theorem WT.of {e : Expr} {t : TT} (p : PT X e t) {Q : Bool → Hp → Prop} (q : t σ H Q) : WT X e σ H Q := fun pins s I => p.run pins s σ H Q I q
theorem WA.of {es : List Expr} {t : TA} (p : PA X es t) {Q : List V → Hp → Prop} (q : t σ H Q) : WA X es σ H Q := fun pos pins s I => p.run pos pins s σ H Q I q
theorem WS.of {st : Stmt} {t : TS} (p : PS X st t) {D : Ends} (q : t D σ H) : WS X st D σ H := fun pins s I => p.run pins s σ H D I q
theorem WB.of {st : List Stmt} {t : TS} (p : PSs X st t) {D : Ends} (q : t D σ H) : WB X st D σ H := fun pins s I => p.run pins s σ H D I q
end

/-! ## data that stands in the abstract heap -/
def keyD : Key → PyData
  | .inl i => .int i
  | .inr x => .str x
mutual
inductive Rp (K : PySem.W.Frag) (H : Hp) : V → PyData → Prop
  | non : Rp K H .non .none
  | bl (b : Bool) : Rp K H (.bl b) (.bool b)
  | int (i : Int) : Rp K H (.int i) (.int i)
  | str (x : Str) : Rp K H (.str x) (.str x)
  | lst {a : Addr} {xs : List V} {ds : List PyData} : H a = some (.lst xs) → RpA K H xs ds → Rp K H (.ref a) (.list ds)
  | tup {a : Addr} {xs : List V} {ds : List PyData} : SqT K H a xs → RpA K H xs ds → Rp K H (.ref a) (.tuple ds)
  | dic {a : Addr} {kvs : List (Key × V)} {ds : List (PyData × PyData)} : H a = some (.dK kvs) → RpK K H kvs ds → Rp K H (.ref a) (.dict ds)
inductive RpA (K : PySem.W.Frag) (H : Hp) : List V → List PyData → Prop
  | nil : RpA K H [] []
  | cons {v : V} {vs : List V} {d : PyData} {ds : List PyData} : Rp K H v d → RpA K H vs ds → RpA K H (v :: vs) (d :: ds)
inductive RpK (K : PySem.W.Frag) (H : Hp) : List (Key × V) → List (PyData × PyData) → Prop
  | nil : RpK K H [] []
  | cons {k : Key} {v : V} {r : List (Key × V)} {d : PyData} {ds : List (PyData × PyData)} : Rp K H v d → RpK K H r ds → RpK K H ((k, v) :: r) ((keyD k, d) :: ds)
end
theorem seqT {K : PySem.W.Frag} {H H' : Hp} (e : Same H H') {a : Addr} {xs : List V} (h : SqT K H a xs) : SqT K H' a xs := by
  rcases h with (h | ⟨o, h⟩) | h
  · exact .inl (.inl (e _ _ h))
  · exact .inl (.inr ⟨o, e _ _ h⟩)
  · exact .inr h
mutual
theorem Rp.mono {K : PySem.W.Frag} {H H' : Hp} (e : Same H H') : ∀ {v : V} {d : PyData}, Rp K H v d → Rp K H' v d
  | _, _, .non => .non
  | _, _, .bl b => .bl b
  | _, _, .int i => .int i
  | _, _, .str x => .str x
  | _, _, .lst h r => .lst (e _ _ h) (RpA.mono e r)
  | _, _, .tup h r => .tup (seqT e h) (RpA.mono e r)
  | _, _, .dic h r => .dic (e _ _ h) (RpK.mono e r)
theorem RpA.mono {K : PySem.W.Frag} {H H' : Hp} (e : Same H H') : ∀ {v : List V} {d : List PyData}, RpA K H v d → RpA K H' v d
  | _, _, .nil => .nil
  | _, _, .cons h r => .cons (Rp.mono e h) (RpA.mono e r)
theorem RpK.mono {K : PySem.W.Frag} {H H' : Hp} (e : Same H H') : ∀ {v : List (Key × V)} {d : List (PyData × PyData)}, RpK K H v d → RpK K H' v d
  | _, _, .nil => .nil
  | _, _, .cons h r => .cons (Rp.mono e h) (RpK.mono e r)
end
section
variable {K : PySem.W.Frag} {H : Hp}
theorem RpA.len : ∀ {vs : List V} {ds : List PyData}, RpA K H vs ds → vs.length = ds.length
  | _, _, .nil => rfl
  | _, _, .cons _ r => by simp [RpA.len r]
theorem RpA.get : ∀ {vs : List V} {ds : List PyData} {i : Nat} {d : PyData}, RpA K H vs ds → ds[i]? = some d → ∃ v, vs[i]? = some v ∧ Rp K H v d
  | _, _, _, _, .nil, e => by simp at e
  | _, _, 0, _, .cons h _, e => by simp at e; subst e; exact ⟨_, rfl, h⟩
  | _, _, i + 1, d, .cons _ r, e => by
    obtain ⟨v, h1, h2⟩ := RpA.get (i := i) (d := d) r (by simpa using e)
    exact ⟨v, by simpa using h1, h2⟩
theorem RpA.get' : ∀ {vs : List V} {ds : List PyData} {i : Nat} {v : V}, RpA K H vs ds → vs[i]? = some v → ∃ d, ds[i]? = some d ∧ Rp K H v d
  | _, _, _, _, .nil, e => by simp at e
  | _, _, 0, _, .cons h _, e => by simp at e; subst e; exact ⟨_, rfl, h⟩
  | _, _, i + 1, d, .cons _ r, e => by
    obtain ⟨v, h1, h2⟩ := RpA.get' (i := i) (v := d) r (by simpa using e)
    exact ⟨v, by simpa using h1, h2⟩
theorem RpA.append : ∀ {a b : List V} {c d : List PyData}, RpA K H a c → RpA K H b d → RpA K H (a ++ b) (c ++ d)
  | _, _, _, _, .nil, s => s
  | _, _, _, _, .cons h r, s => .cons h (RpA.append r s)
theorem RpA.take : ∀ {a : List V} {c : List PyData} (n : Nat), RpA K H a c → RpA K H (a.take n) (c.take n)
  | _, _, 0, _ => .nil
  | _, _, _ + 1, .nil => .nil
  | _, _, n + 1, .cons h r => .cons h (RpA.take n r)
theorem RpA.drop : ∀ {a : List V} {c : List PyData} (n : Nat), RpA K H a c → RpA K H (a.drop n) (c.drop n)
  | _, _, 0, r => r
  | _, _, _ + 1, .nil => .nil
  | _, _, n + 1, .cons _ r => RpA.drop n r
theorem RpA.set {v : V} {d : PyData} (h : Rp K H v d) : ∀ {a : List V} {c : List PyData} (n : Nat), RpA K H a c → RpA K H (a.set n v) (c.set n d)
  | _, _, _, .nil => .nil
  | _, _, 0, .cons _ r => .cons h r
  | _, _, n + 1, .cons q r => .cons q (RpA.set h n r)
theorem RpA.ints : ∀ (ns : List Int), RpA K H (ns.map V.int) (ns.map PyData.int)
  | [] => .nil
  | n :: ns => .cons (.int n) (RpA.ints ns)
/-- data without dicts, for the library's == -/
theorem dp_of : ∀ {v : V} {d : PyData}, d.canLay0 = true → Rp K H v d → Dp K H v d := by
  intro v d
  have go : ∀ n, (∀ d : PyData, sizeOf d < n → ∀ v, d.canLay0 = true → Rp K H v d → Dp K H v d) ∧ (∀ ds : List PyData, sizeOf ds < n → ∀ vs, PyData.canLayAll0 ds = true → RpA K H vs ds → DpAll K H vs ds) := by
    intro n
    induction n with
    | zero => exact ⟨fun d h => by omega, fun d h => by omega⟩
    | succ n ih =>
      refine ⟨fun d h v hc r => ?_, fun ds h vs hc r => ?_⟩
      · cases r with
        | non => exact .non
        | bl b => exact .bl b
        | int i => exact .int i
        | str x => exact .str x
        | lst hs ha => exact .lst (SqL.of hs) (ih.2 _ (by simp at h; omega) _ (by simpa [PyData.canLay0] using hc) ha)
        | tup hs ha => exact .tup hs (ih.2 _ (by simp at h; omega) _ (by simpa [PyData.canLay0] using hc) ha)
        | dic _ _ => exact absurd hc (by simp [PyData.canLay0])
      · cases r with
        | nil => exact .nil
        | @cons v1 vs1 d1 ds1 h1 h2 =>
          have hc' : PyData.canLay0 d1 = true ∧ PyData.canLayAll0 ds1 = true := by simpa [PyData.canLayAll0] using hc
          exact .cons (ih.1 _ (by simp at h; omega) _ hc'.1 h1) (ih.2 _ (by simp at h; omega) _ hc'.2 h2)
  exact fun hc r => (go _).1 d (Nat.lt_succ_self _) v hc r
end

/-! ## what is owned: objects that the code at hand may change; all else is data -/
def hid (O : List Addr) (H : Hp) : Hp := fun a => if a ∈ O then none else H a
theorem hid_in {O : List Addr} {H : Hp} {a : Addr} (h : a ∈ O) : hid O H a = none := if_pos h
theorem hid_out {O : List Addr} {H : Hp} {a : Addr} (h : a ∉ O) : hid O H a = H a := if_neg h
theorem hid_some {O : List Addr} {H : Hp} {a : Addr} {o : HO} (h : hid O H a = some o) : a ∉ O ∧ H a = some o := by
  by_cases q : a ∈ O
  · rw [hid_in q] at h; cases h
  · rw [hid_out q] at h; exact ⟨q, h⟩
structure OwnP where
  ok : PySem.W.Frag → Hp → HO → Prop
  mono : ∀ K H H' o, Same H H' → ok K H o → ok K H' o
abbrev Ow := List (Addr × OwnP)
abbrev dom (ω : Ow) : List Addr := ω.map (·.1)
inductive Cell where
  | raw (v : V)
  | dat (d : PyData)
  | scr (ns : List Int)
abbrev Env := List (Option Cell)
def CellOk (K : PySem.W.Frag) (O : List Addr) (H : Hp) (v : V) : Cell → Prop
  | .raw w => v = w
  | .dat d => Rp K (hid O H) v d
  | .scr ns => ∃ a, v = .ref a ∧ SqL K (hid O H) a (ns.map V.int)
abbrev Kp (O : List Addr) (H : Hp) (O' : List Addr) (H' : Hp) : Prop := Same (hid O H) (hid O' H')
theorem CellOk.mono {K : PySem.W.Frag} {O O' : List Addr} {H H' : Hp} (e : Kp O H O' H') {v : V} : ∀ {c : Cell}, CellOk K O H v c → CellOk K O' H' v c
  | .raw _, h => h
  | .dat _, h => Rp.mono e h
  | .scr _, ⟨a, h1, h2⟩ => ⟨a, h1, Same.seq e h2⟩
def EnvOk (K : PySem.W.Frag) (O : List Addr) (H : Hp) : St → Env → Prop
  | [], [] => True
  | sv :: σ, c :: δ => (∀ x, c = some x → ∃ v, sv = some v ∧ CellOk K O H v x) ∧ EnvOk K O H σ δ
  | _, _ => False
section
variable {K : PySem.W.Frag} {O O' : List Addr} {H H' : Hp}
theorem EnvOk.mono (e : Kp O H O' H') : ∀ {σ : St} {δ : Env}, EnvOk K O H σ δ → EnvOk K O' H' σ δ
  | [], [], _ => trivial
  | _ :: _, _ :: _, ⟨h, r⟩ => ⟨fun x q => let ⟨v, h1, h2⟩ := h x q; ⟨v, h1, h2.mono e⟩, EnvOk.mono e r⟩
  | [], _ :: _, h => h.elim
  | _ :: _, [], h => h.elim
theorem EnvOk.get : ∀ {σ : St} {δ : Env} {i : Nat} {c : Cell}, EnvOk K O H σ δ → δ[i]? = some (some c) → ∃ v, σ[i]? = some (some v) ∧ CellOk K O H v c
  | [], [], _, _, _, q => by simp at q
  | sv :: _, c :: _, 0, x, ⟨h, _⟩, q => by
    obtain ⟨v, h1, h2⟩ := h x (by simpa using q)
    exact ⟨v, by simp [h1], h2⟩
  | _ :: _, _ :: _, i + 1, x, ⟨_, r⟩, q => by
    obtain ⟨v, h1, h2⟩ := EnvOk.get (i := i) (c := x) r (by simpa using q)
    exact ⟨v, by simpa using h1, h2⟩
  | [], _ :: _, _, _, h, _ => h.elim
  | _ :: _, [], _, _, h, _ => h.elim
theorem EnvOk.set {v : V} {c : Cell} (hc : CellOk K O H v c) : ∀ {σ : St} {δ : Env} (i : Nat), EnvOk K O H σ δ → EnvOk K O H (σ.set i (some v)) (δ.set i (some c))
  | [], [], _, _ => trivial
  | _ :: _, _ :: _, 0, ⟨_, r⟩ => ⟨fun x q => by cases q; exact ⟨v, rfl, hc⟩, r⟩
  | _ :: _, _ :: _, i + 1, ⟨h, r⟩ => ⟨h, EnvOk.set hc i r⟩
  | [], _ :: _, _, h => h.elim
  | _ :: _, [], _, h => h.elim
/-- a slot that is forgotten -/
theorem EnvOk.forget : ∀ {σ : St} {δ : Env} (i : Nat), EnvOk K O H σ δ → EnvOk K O H σ (δ.set i none)
  | [], [], _, _ => trivial
  | _ :: _, _ :: _, 0, ⟨_, r⟩ => ⟨fun x q => (nomatch q), r⟩
  | _ :: _, _ :: _, i + 1, ⟨h, r⟩ => ⟨h, EnvOk.forget i r⟩
  | [], _ :: _, _, h => h.elim
  | _ :: _, [], _, h => h.elim
theorem EnvOk.length : ∀ {σ : St} {δ : Env}, EnvOk K O H σ δ → σ.length = δ.length
  | [], [], _ => rfl
  | _ :: _, _ :: _, ⟨_, r⟩ => by simp [EnvOk.length r]
  | [], _ :: _, h => h.elim
  | _ :: _, [], h => h.elim
end
structure OwnOk (K : PySem.W.Frag) (ω : Ow) (H : Hp) : Prop where
  nd : (dom ω).Nodup
  at_ : ∀ p P, (p, P) ∈ ω → ∃ o, H p = some o ∧ P.ok K (hid (dom ω) H) o
structure StOk (K : PySem.W.Frag) (ω : Ow) (δ : Env) (σ : St) (H : Hp) : Prop where
  env : EnvOk K (dom ω) H σ δ
  own : OwnOk K ω H
section
variable {K : PySem.W.Frag} {ω : Ow} {δ : Env} {σ : St} {H : Hp} {p : Addr} {o : HO}
theorem OwnOk.notin (h : OwnOk K ω H) (hp : H p = none) : p ∉ dom ω := fun q => by
  obtain ⟨⟨a, P⟩, h1, rfl⟩ := List.mem_map.mp q
  obtain ⟨u, h2, _⟩ := h.at_ a P h1
  rw [hp] at h2; cases h2
theorem kp_new (h : OwnOk K ω H) (hp : H p = none) : Kp (dom ω) H (dom ω) (upd H p o) := fun b u q => by
  obtain ⟨h1, h2⟩ := hid_some q
  rw [hid_out h1, upd_ne (ne_of_none h2 hp)]
  exact h2
theorem OwnOk.new (h : OwnOk K ω H) (hp : H p = none) : OwnOk K ω (upd H p o) := ⟨h.nd, fun a P q => by
  obtain ⟨u, h1, h2⟩ := h.at_ a P q
  exact ⟨u, by rw [upd_ne (ne_of_none h1 hp)]; exact h1, P.mono _ _ _ _ (kp_new h hp) h2⟩⟩
theorem StOk.new (h : StOk K ω δ σ H) (hp : H p = none) : StOk K ω δ σ (upd H p o) := ⟨h.env.mono (kp_new h.own hp), h.own.new hp⟩
theorem StOk.get {i : Nat} {c : Cell} (h : StOk K ω δ σ H) (q : δ[i]? = some (some c)) : ∃ v, σ[i]? = some (some v) ∧ CellOk K (dom ω) H v c := h.env.get q
theorem Kp.refl (O : List Addr) (H : Hp) : Kp O H O H := Same.refl _
theorem Kp.trans {O O1 O2 : List Addr} {H H1 H2 : Hp} (a : Kp O H O1 H1) (b : Kp O1 H1 O2 H2) : Kp O H O2 H2 := Same.trans a b
/-- a new object is data -/
theorem new_tup {xs : List V} {ds : List PyData} (h : OwnOk K ω H) (hp : H p = none) (r : RpA K (hid (dom ω) H) xs ds) : Rp K (hid (dom ω) (upd H p (.tup xs))) (.ref p) (.tuple ds) :=
  .tup (.inl (.inl (by rw [hid_out (h.notin hp), upd_same]))) (r.mono (kp_new h hp))
theorem new_lst {xs : List V} {ds : List PyData} (h : OwnOk K ω H) (hp : H p = none) (r : RpA K (hid (dom ω) H) xs ds) : Rp K (hid (dom ω) (upd H p (.lst xs))) (.ref p) (.list ds) :=
  .lst (by rw [hid_out (h.notin hp), upd_same]) (r.mono (kp_new h hp))
theorem rd_hid {O : List Addr} {a : Addr} {u : HO} (h : Rd (hid O H) a u) : Rd H a u := by
  rcases h with h | ⟨o, h⟩
  · exact .inl (hid_some h).2
  · exact .inr ⟨o, (hid_some h).2⟩
theorem sql_hid {O : List Addr} {a : Addr} {xs : List V} (h : SqL K (hid O H) a xs) : SqL K H a xs := by
  rcases h with h | h
  · exact .inl (rd_hid h)
  · exact .inr h
theorem sqt_hid {O : List Addr} {a : Addr} {xs : List V} (h : SqT K (hid O H) a xs) : SqT K H a xs := by
  rcases h with h | h
  · exact .inl (rd_hid h)
  · exact .inr h
end
theorem hid_same {O : List Addr} {H : Hp} : Same (hid O H) H := fun _ _ q => (hid_some q).2

/-! ## the judgements over data -/
/-- e gives a cell c, behind which ω' is owned, such that Φ ω' c -/
def N (X : Cx) (ω : Ow) (δ : Env) (e : Expr) (Φ : Ow → Cell → Prop) : Prop :=
  ∀ σ H Q, StOk X.K ω δ σ H → (∀ ω' c v H', Φ ω' c → StOk X.K ω' δ σ H' → Kp (dom ω) H (dom ω') H' → CellOk X.K (dom ω') H' v c → Q v H') → WE X e σ H Q
def NT (X : Cx) (ω : Ow) (δ : Env) (e : Expr) (Φ : Ow → Bool → Prop) : Prop :=
  ∀ σ H Q, StOk X.K ω δ σ H → (∀ ω' b H', Φ ω' b → StOk X.K ω' δ σ H' → Kp (dom ω) H (dom ω') H' → Q b H') → WT X e σ H Q
inductive Cells (K : PySem.W.Frag) (O : List Addr) (H : Hp) : List V → List Cell → Prop
  | nil : Cells K O H [] []
  | cons {v : V} {c : Cell} {vs : List V} {cs : List Cell} : CellOk K O H v c → Cells K O H vs cs → Cells K O H (v :: vs) (c :: cs)
theorem Cells.mono {K : PySem.W.Frag} {O O' : List Addr} {H H' : Hp} (e : Kp O H O' H') : ∀ {vs : List V} {cs : List Cell}, Cells K O H vs cs → Cells K O' H' vs cs
  | _, _, .nil => .nil
  | _, _, .cons h r => .cons (h.mono e) (Cells.mono e r)
def NA (X : Cx) (ω : Ow) (δ : Env) (es : List Expr) (Φ : Ow → List Cell → Prop) : Prop :=
  ∀ σ H Q, StOk X.K ω δ σ H → (∀ ω' cs vs H', Φ ω' cs → StOk X.K ω' δ σ H' → Kp (dom ω) H (dom ω') H' → Cells X.K (dom ω') H' vs cs → Q vs H') → WA X es σ H Q
/-- what a block may end with -/
structure En where
  nx : Ow → Env → Prop
  rt : Ow → Cell → Prop
  bk : Ow → Env → Prop := fun _ _ => False
  ct : Ow → Env → Prop := fun _ _ => False
structure Fits (K : PySem.W.Frag) (ω : Ow) (H : Hp) (E : En) (D : Ends) : Prop where
  nx : ∀ ω' δ' σ' H', E.nx ω' δ' → StOk K ω' δ' σ' H' → Kp (dom ω) H (dom ω') H' → D.nx σ' H'
  rt : ∀ ω' c v H', E.rt ω' c → OwnOk K ω' H' → Kp (dom ω) H (dom ω') H' → CellOk K (dom ω') H' v c → D.rt v H'
  bk : ∀ ω' δ' σ' H', E.bk ω' δ' → StOk K ω' δ' σ' H' → Kp (dom ω) H (dom ω') H' → D.bk σ' H'
  ct : ∀ ω' δ' σ' H', E.ct ω' δ' → StOk K ω' δ' σ' H' → Kp (dom ω) H (dom ω') H' → D.ct σ' H'
theorem Fits.after {K : PySem.W.Frag} {ω ω1 : Ow} {H H1 : Hp} {E : En} {D : Ends} (f : Fits K ω H E D) (k : Kp (dom ω) H (dom ω1) H1) : Fits K ω1 H1 E D :=
  ⟨fun a b c d e g q => f.nx a b c d e g (k.trans q), fun a b c d e g q => f.rt a b c d e g (k.trans q), fun a b c d e g q => f.bk a b c d e g (k.trans q), fun a b c d e g q => f.ct a b c d e g (k.trans q)⟩
def S (X : Cx) (ω : Ow) (δ : Env) (st : Stmt) (E : En) : Prop := ∀ σ H D, StOk X.K ω δ σ H → Fits X.K ω H E D → WS X st D σ H
def B (X : Cx) (ω : Ow) (δ : Env) (st : List Stmt) (E : En) : Prop := ∀ σ H D, StOk X.K ω δ σ H → Fits X.K ω H E D → WB X st D σ H

section
variable {X : Cx} {ω : Ow} {δ : Env} {e a b : Expr} {es : List Expr} {Φ : Ow → Cell → Prop} {pos : Pos}
theorem N.imp {Φ' : Ow → Cell → Prop} (h : N X ω δ e Φ) (k : ∀ ω' c, Φ ω' c → Φ' ω' c) : N X ω δ e Φ' := fun σ H Q s q => h σ H Q s fun ω' c v H' f => q ω' c v H' (k _ _ f)
theorem NT.imp {Φ Φ' : Ow → Bool → Prop} (h : NT X ω δ e Φ) (k : ∀ ω' c, Φ ω' c → Φ' ω' c) : NT X ω δ e Φ' := fun σ H Q s q => h σ H Q s fun ω' c H' f => q ω' c H' (k _ _ f)
/-- an expression by the layer's own rule, where it changes nothing and gives what a cell says -/
theorem n_lift {t : TE} (p : PE X e t) (h : ∀ σ H Q, StOk X.K ω δ σ H → (∀ ω' c v H', Φ ω' c → StOk X.K ω' δ σ H' → Kp (dom ω) H (dom ω') H' → CellOk X.K (dom ω') H' v c → Q v H') → t σ H Q) : N X ω δ e Φ :=
  fun σ H Q s q => WE.of p (h σ H Q s q)
theorem n_var (i : Nat) {x : Str} {c : Cell} (h : Φ ω c) (hd : δ[i]? = some (some c) := by rfl) (hN : X.N[i]? = some x := by rfl) (hv : Vis X.env.scope x := by first | exact Or.inl rfl | exact Or.inr (Or.inl rfl) | exact Or.inr (Or.inr rfl))
    (hg : (x == ("__debug__" : Str)) = false := by decide) (hcd : (x == ("__classdict__" : Str)) = false := by decide) : N X ω δ (.Name x pos) Φ :=
  n_lift (pe_var hN hv hg hcd) fun σ H Q s q => by
    obtain ⟨v, h1, h2⟩ := s.get hd
    exact ⟨v, h1, q ω c v H h s (Kp.refl _ _) h2⟩
theorem n_int {i : Int} {j} (h : Φ ω (.dat (.int i))) : N X ω δ (.Constant (.int i) j pos) Φ := n_lift pe_int fun σ H Q s q => q ω _ _ H h s (Kp.refl _ _) (Rp.int i)
theorem n_bl {i : Bool} {j} (h : Φ ω (.dat (.bool i))) : N X ω δ (.Constant (.bool i) j pos) Φ := n_lift pe_bl fun σ H Q s q => q ω _ _ H h s (Kp.refl _ _) (Rp.bl i)
theorem n_str {i : Str} {j} (h : Φ ω (.dat (.str i))) : N X ω δ (.Constant (.str i) j pos) Φ := n_lift pe_str fun σ H Q s q => q ω _ _ H h s (Kp.refl _ _) (Rp.str i)
theorem n_non {j} (h : Φ ω (.dat .none)) : N X ω δ (.Constant .none j pos) Φ := n_lift pe_non fun σ H Q s q => q ω _ _ H h s (Kp.refl _ _) Rp.non
/-- what an operation on two values asks, over cells -/
def Op2 (X : Cx) (r : R2) (ω : Ow) (δ : Env) (c1 c2 : Cell) (Φ : Ow → Cell → Prop) : Prop :=
  ∀ x y σ H Q, StOk X.K ω δ σ H → CellOk X.K (dom ω) H x c1 → CellOk X.K (dom ω) H y c2 → (∀ ω' c v H', Φ ω' c → StOk X.K ω' δ σ H' → Kp (dom ω) H (dom ω') H' → CellOk X.K (dom ω') H' v c → Q v H') → r x y H Q
theorem n_op2 {r : R2} {e : Expr} (p : PE X e (tOp r (WE X a) (WE X b))) (h : N X ω δ a fun ω1 c1 => N X ω1 δ b fun ω2 c2 => Op2 X r ω2 δ c1 c2 Φ) : N X ω δ e Φ :=
  n_lift p fun σ H Q s q => h σ H _ s fun ω1 c1 v1 H1 f1 s1 k1 o1 => f1 σ H1 _ s1 fun ω2 c2 v2 H2 f2 s2 k2 o2 =>
    f2 v1 v2 σ H2 Q s2 (o1.mono k2) o2 fun ω3 c3 v3 H3 f3 s3 k3 o3 => q ω3 c3 v3 H3 f3 s3 (k1.trans (k2.trans k3)) o3
def Op1 (X : Cx) (r : V → Hp → VK → Prop) (ω : Ow) (δ : Env) (c1 : Cell) (Φ : Ow → Cell → Prop) : Prop :=
  ∀ x σ H Q, StOk X.K ω δ σ H → CellOk X.K (dom ω) H x c1 → (∀ ω' c v H', Φ ω' c → StOk X.K ω' δ σ H' → Kp (dom ω) H (dom ω') H' → CellOk X.K (dom ω') H' v c → Q v H') → r x H Q
theorem n_op1 {r : V → Hp → VK → Prop} {e : Expr} (p : PE X e (tUn r (WE X a))) (h : N X ω δ a fun ω1 c1 => Op1 X r ω1 δ c1 Φ) : N X ω δ e Φ :=
  n_lift p fun σ H Q s q => h σ H _ s fun ω1 c1 v1 H1 f1 s1 k1 o1 => f1 v1 σ H1 Q s1 o1 fun ω3 c3 v3 H3 f3 s3 k3 o3 => q ω3 c3 v3 H3 f3 s3 (k1.trans k3) o3
end
end DL

namespace DL
open PySem PySem.Spec L2
section
variable {X : Cx} {ω : Ow} {δ : Env} {e a b c : Expr} {rest es : List Expr} {Φ : Ow → Cell → Prop} {pos : Pos}
/-! ## tests, and, or, not -/
theorem n_ifx {ΦT : Ow → Bool → Prop} (h : NT X ω δ c fun ω1 k => if k = true then N X ω1 δ a Φ else N X ω1 δ b Φ) : N X ω δ (.IfExp c a b pos) Φ :=
  n_lift (pe_ifExp (WT.pt X c) (WE.pe X a) (WE.pe X b)) fun σ H Q s q => h σ H _ s fun ω1 k H1 f1 s1 k1 => by
    cases k with
    | true => exact f1 σ H1 Q s1 fun ω2 c v H2 f2 s2 k2 o2 => q ω2 c v H2 f2 s2 (k1.trans k2) o2
    | false => exact f1 σ H1 Q s1 fun ω2 c v H2 f2 s2 k2 o2 => q ω2 c v H2 f2 s2 (k1.trans k2) o2
def isB (ω : Ow) (Φ : Ow → Bool → Prop) (c : Cell) : Prop := ∃ k, c = .dat (.bool k) ∧ Φ ω k
theorem isB.mk {Φ : Ow → Bool → Prop} {k : Bool} (h : Φ ω k) : isB ω Φ (.dat (.bool k)) := ⟨k, rfl, h⟩
theorem bool_of {K : PySem.W.Frag} {O : List Addr} {H : Hp} {v : V} {k : Bool} (h : CellOk K O H v (.dat (.bool k))) : v = .bl k := by cases h; rfl
theorem int_of {K : PySem.W.Frag} {O : List Addr} {H : Hp} {v : V} {k : Int} (h : CellOk K O H v (.dat (.int k))) : v = .int k := by cases h; rfl
theorem str_of {K : PySem.W.Frag} {O : List Addr} {H : Hp} {v : V} {k : Str} (h : CellOk K O H v (.dat (.str k))) : v = .str k := by cases h; rfl
theorem non_of {K : PySem.W.Frag} {O : List Addr} {H : Hp} {v : V} (h : CellOk K O H v (.dat .none)) : v = .non := by cases h; rfl
/-- a value that is a bool, as a test -/
theorem nt_val {Φ : Ow → Bool → Prop} (h : N X ω δ e fun ω1 c => isB ω1 Φ c) (he : ∀ whole, isTrue e X.env whole = (do let v ← whole; standAt e.pos; holding [v] (truthy v)) := by intro _; rfl) : NT X ω δ e Φ := fun σ H Q s q =>
  WT.of (pt_val (WE.pe X e) he) (h σ H _ s fun ω1 c v H1 ⟨k, e1, f1⟩ s1 k1 o1 => by
    subst e1
    cases bool_of o1
    exact ⟨k, rfl, q ω1 k H1 f1 s1 k1⟩)
def WW (X : Cx) (e : Expr) (σ : St) (H : Hp) (Q : Bool → Hp → Prop) : Prop :=
  ∀ (whole : Sem Value) pins s, Inv X pins σ H s → wpAny (model X.prog X.w) X.A (isTrue e X.env whole) (TP X pins σ Q) X.xe s
theorem WW.pw (X : Cx) (e : Expr) : PW X e (WW X e) := ⟨fun wh pins s _ _ _ I h => h wh pins s I⟩
theorem WW.of {σ : St} {H : Hp} {t : TT} (p : PW X e t) {Q : Bool → Hp → Prop} (q : t σ H Q) : WW X e σ H Q := fun wh pins s I => p.run wh pins s σ H Q I q
def NW (X : Cx) (ω : Ow) (δ : Env) (e : Expr) (Φ : Ow → Bool → Prop) : Prop :=
  ∀ σ H Q, StOk X.K ω δ σ H → (∀ ω' b H', Φ ω' b → StOk X.K ω' δ σ H' → Kp (dom ω) H (dom ω') H' → Q b H') → WW X e σ H Q
theorem nt_w {Φ : Ow → Bool → Prop} (h : NW X ω δ e Φ) : NT X ω δ e Φ := fun σ H Q s q => WT.of (WW.pw X e).pt (h σ H Q s q)
theorem nw_and1 {Φ : Ow → Bool → Prop} (h : NT X ω δ a Φ) : NW X ω δ (.BoolOp .And [a] pos) Φ := fun σ H Q s q => WW.of (pw_and1 (WT.pt X a)) (h σ H Q s q)
theorem nw_or1 {Φ : Ow → Bool → Prop} (h : NT X ω δ a Φ) : NW X ω δ (.BoolOp .Or [a] pos) Φ := fun σ H Q s q => WW.of (pw_or1 (WT.pt X a)) (h σ H Q s q)
theorem nw_and {Φ : Ow → Bool → Prop} (h : NT X ω δ a fun ω1 k => if k = true then NW X ω1 δ (.BoolOp .And (b :: rest) pos) Φ else Φ ω1 false) : NW X ω δ (.BoolOp .And (a :: b :: rest) pos) Φ := fun σ H Q s q =>
  WW.of (pw_and (WT.pt X a) (WW.pw X _)) (h σ H _ s fun ω1 k H1 f1 s1 k1 => by
    cases k with
    | true => exact f1 σ H1 Q s1 fun ω2 c H2 f2 s2 k2 => q ω2 c H2 f2 s2 (k1.trans k2)
    | false => exact q ω1 false H1 f1 s1 k1)
theorem nw_or {Φ : Ow → Bool → Prop} (h : NT X ω δ a fun ω1 k => if k = true then Φ ω1 true else NW X ω1 δ (.BoolOp .Or (b :: rest) pos) Φ) : NW X ω δ (.BoolOp .Or (a :: b :: rest) pos) Φ := fun σ H Q s q =>
  WW.of (pw_or (WT.pt X a) (WW.pw X _)) (h σ H _ s fun ω1 k H1 f1 s1 k1 => by
    cases k with
    | false => exact f1 σ H1 Q s1 fun ω2 c H2 f2 s2 k2 => q ω2 c H2 f2 s2 (k1.trans k2)
    | true => exact q ω1 true H1 f1 s1 k1)
theorem nt_and {Φ : Ow → Bool → Prop} (h : NT X ω δ a fun ω1 k => if k = true then NT X ω1 δ b Φ else Φ ω1 false) : NT X ω δ (.BoolOp .And [a, b] pos) Φ :=
  nt_w (nw_and (h.imp fun ω1 k f => by cases k with | true => exact nw_and1 f | false => exact f))
theorem nt_or {Φ : Ow → Bool → Prop} (h : NT X ω δ a fun ω1 k => if k = true then Φ ω1 true else NT X ω1 δ b Φ) : NT X ω δ (.BoolOp .Or [a, b] pos) Φ :=
  nt_w (nw_or (h.imp fun ω1 k f => by cases k with | false => exact nw_or1 f | true => exact f))
theorem nt_not {Φ : Ow → Bool → Prop} (h : NT X ω δ a fun ω1 k => Φ ω1 (!k)) : NT X ω δ (.UnaryOp .Not a pos) Φ := fun σ H Q s q =>
  WT.of (pt_not (WT.pt X a)) (h σ H _ s fun ω1 k H1 f1 s1 k1 => q ω1 _ H1 f1 s1 k1)
theorem n_one {op} (h : N X ω δ a Φ) : N X ω δ (.BoolOp op [a] pos) Φ := n_lift (pe_one (WE.pe X a)) fun σ H Q s q => h σ H Q s q
theorem n_and (h : N X ω δ a fun ω1 c => isB ω1 (fun ω1 k => if k = true then N X ω1 δ (.BoolOp .And (b :: rest) pos) Φ else Φ ω1 (.dat (.bool false))) c) : N X ω δ (.BoolOp .And (a :: b :: rest) pos) Φ :=
  n_lift (pe_and (WE.pe X a) (WE.pe X _)) fun σ H Q s q => h σ H _ s fun ω1 c v H1 ⟨k, e1, f1⟩ s1 k1 o1 => by
    subst e1
    cases bool_of o1
    refine ⟨k, rfl, ?_⟩
    cases k with
    | true => exact f1 σ H1 Q s1 fun ω2 c v H2 f2 s2 k2 o2 => q ω2 c v H2 f2 s2 (k1.trans k2) o2
    | false => exact q ω1 _ _ H1 f1 s1 k1 (Rp.bl false)
theorem n_or (h : N X ω δ a fun ω1 c => isB ω1 (fun ω1 k => if k = true then Φ ω1 (.dat (.bool true)) else N X ω1 δ (.BoolOp .Or (b :: rest) pos) Φ) c) : N X ω δ (.BoolOp .Or (a :: b :: rest) pos) Φ :=
  n_lift (pe_or (WE.pe X a) (WE.pe X _)) fun σ H Q s q => h σ H _ s fun ω1 c v H1 ⟨k, e1, f1⟩ s1 k1 o1 => by
    subst e1
    cases bool_of o1
    refine ⟨k, rfl, ?_⟩
    cases k with
    | false => exact f1 σ H1 Q s1 fun ω2 c v H2 f2 s2 k2 o2 => q ω2 c v H2 f2 s2 (k1.trans k2) o2
    | true => exact q ω1 _ _ H1 f1 s1 k1 (Rp.bl true)
theorem n_not (h : N X ω δ a fun ω1 c => isB ω1 (fun ω1 k => Φ ω1 (.dat (.bool (!k)))) c) : N X ω δ (.UnaryOp .Not a pos) Φ :=
  n_lift (pe_not (WE.pe X a)) fun σ H Q s q => h σ H _ s fun ω1 c v H1 ⟨k, e1, f1⟩ s1 k1 o1 => by
    subst e1
    cases bool_of o1
    exact ⟨k, rfl, q ω1 _ _ H1 f1 s1 k1 (Rp.bl _)⟩
/-! ## operators -/
theorem n_bop {op : Operator} {r : R2} (ho : OpR X (binaryOp op) r) (h : N X ω δ a fun ω1 c1 => N X ω1 δ b fun ω2 c2 => Op2 X r ω2 δ c1 c2 Φ) : N X ω δ (.BinOp a op b pos) Φ :=
  n_op2 (pe_op ho (WE.pe X a) (WE.pe X b)) h
theorem n_cop {op : CmpOp} {r : R2} (ho : OpR X (compareOp op) r) (hm : behindInMarks op b = false) (h : N X ω δ a fun ω1 c1 => N X ω1 δ b fun ω2 c2 => Op2 X r ω2 δ c1 c2 Φ) : N X ω δ (.Compare a [op] [b] pos) Φ :=
  n_op2 (pe_cmpR ho (WE.pe X a) (WE.pe X b) hm) h
/-- two ints -/
def isI2 (ω : Ow) (c1 c2 : Cell) (P : Int → Int → Prop) : Prop := ∃ i j, c1 = .dat (.int i) ∧ c2 = .dat (.int j) ∧ P i j
theorem isI2.mk {i j : Int} {P : Int → Int → Prop} (h : P i j) : isI2 ω (.dat (.int i)) (.dat (.int j)) P := ⟨i, j, rfl, rfl, h⟩
theorem op2_I0 {g : Int → Int → V} {G : Int → Int → PyData} {c1 c2 : Cell} (hg : ∀ K H i j, Rp K H (g i j) (G i j)) (h : isI2 ω c1 c2 fun i j => Φ ω (.dat (G i j))) : Op2 X (rI0 g) ω δ c1 c2 Φ := fun x y σ H Q s o1 o2 q => by
  obtain ⟨i, j, e1, e2, f⟩ := h
  subst e1; subst e2
  cases int_of o1; cases int_of o2
  exact ⟨i, j, rfl, rfl, q ω _ _ H f s (Kp.refl _ _) (hg _ _ i j)⟩
theorem op2_I {C : Int → Int → Prop} {g : Int → Int → V} {G : Int → Int → PyData} {c1 c2 : Cell} (hg : ∀ K H i j, Rp K H (g i j) (G i j)) (h : isI2 ω c1 c2 fun i j => C i j ∧ Φ ω (.dat (G i j))) : Op2 X (rI C g) ω δ c1 c2 Φ := fun x y σ H Q s o1 o2 q => by
  obtain ⟨i, j, e1, e2, hc, f⟩ := h
  subst e1; subst e2
  cases int_of o1; cases int_of o2
  exact ⟨i, j, rfl, rfl, hc, q ω _ _ H f s (Kp.refl _ _) (hg _ _ i j)⟩
theorem n_add (h : N X ω δ a fun ω1 c1 => N X ω1 δ b fun ω2 c2 => isI2 ω2 c1 c2 fun i j => Φ ω2 (.dat (.int (i + j)))) : N X ω δ (.BinOp a .Add b pos) Φ :=
  n_bop op_add (h.imp fun _ _ h1 => h1.imp fun _ _ h2 => op2_I0 (G := fun i j => .int (i + j)) (fun _ _ i j => .int _) h2)
theorem n_sub (h : N X ω δ a fun ω1 c1 => N X ω1 δ b fun ω2 c2 => isI2 ω2 c1 c2 fun i j => Φ ω2 (.dat (.int (i - j)))) : N X ω δ (.BinOp a .Sub b pos) Φ :=
  n_bop op_sub (h.imp fun _ _ h1 => h1.imp fun _ _ h2 => op2_I0 (G := fun i j => .int (i - j)) (fun _ _ i j => .int _) h2)
theorem n_mul (h : N X ω δ a fun ω1 c1 => N X ω1 δ b fun ω2 c2 => isI2 ω2 c1 c2 fun i j => CMul i j ∧ Φ ω2 (.dat (.int (i * j)))) : N X ω δ (.BinOp a .Mult b pos) Φ :=
  n_bop op_mul (h.imp fun _ _ h1 => h1.imp fun _ _ h2 => op2_I (G := fun i j => .int (i * j)) (fun _ _ i j => .int _) h2)
theorem n_mod (h : N X ω δ a fun ω1 c1 => N X ω1 δ b fun ω2 c2 => isI2 ω2 c1 c2 fun i j => j ≠ 0 ∧ Φ ω2 (.dat (.int (i.fmod j)))) : N X ω δ (.BinOp a .Mod b pos) Φ :=
  n_bop op_modN (h.imp fun _ _ h1 => h1.imp fun _ _ h2 => op2_I (G := fun i j => .int (i.fmod j)) (fun _ _ i j => .int _) h2)
theorem n_fdiv (h : N X ω δ a fun ω1 c1 => N X ω1 δ b fun ω2 c2 => isI2 ω2 c1 c2 fun i j => CDivN i j ∧ Φ ω2 (.dat (.int (i.fdiv j)))) : N X ω δ (.BinOp a .FloorDiv b pos) Φ :=
  n_bop op_fdivN (h.imp fun _ _ h1 => h1.imp fun _ _ h2 => op2_I (G := fun i j => .int (i.fdiv j)) (fun _ _ i j => .int _) h2)
theorem n_pow (h : N X ω δ a fun ω1 c1 => N X ω1 δ b fun ω2 c2 => isI2 ω2 c1 c2 fun i j => CPow i j ∧ Φ ω2 (.dat (.int (i ^ j.toNat)))) : N X ω δ (.BinOp a .Pow b pos) Φ :=
  n_bop op_pow (h.imp fun _ _ h1 => h1.imp fun _ _ h2 => op2_I (G := fun i j => .int (i ^ j.toNat)) (fun _ _ i j => .int _) h2)
theorem n_lt (h : N X ω δ a fun ω1 c1 => N X ω1 δ b fun ω2 c2 => isI2 ω2 c1 c2 fun i j => Φ ω2 (.dat (.bool (decide (i < j))))) : N X ω δ (.Compare a [.Lt] [b] pos) Φ :=
  n_cop op_lt (nomark _) (h.imp fun _ _ h1 => h1.imp fun _ _ h2 => op2_I0 (G := fun i j => .bool (decide (i < j))) (fun _ _ i j => .bl _) h2)
theorem n_le (h : N X ω δ a fun ω1 c1 => N X ω1 δ b fun ω2 c2 => isI2 ω2 c1 c2 fun i j => Φ ω2 (.dat (.bool (decide (i ≤ j))))) : N X ω δ (.Compare a [.LtE] [b] pos) Φ :=
  n_cop op_le (nomark _) (h.imp fun _ _ h1 => h1.imp fun _ _ h2 => op2_I0 (G := fun i j => .bool (decide (i ≤ j))) (fun _ _ i j => .bl _) h2)
theorem n_gt (h : N X ω δ a fun ω1 c1 => N X ω1 δ b fun ω2 c2 => isI2 ω2 c1 c2 fun i j => Φ ω2 (.dat (.bool (decide (j < i))))) : N X ω δ (.Compare a [.Gt] [b] pos) Φ :=
  n_cop op_gt (nomark _) (h.imp fun _ _ h1 => h1.imp fun _ _ h2 => op2_I0 (G := fun i j => .bool (decide (j < i))) (fun _ _ i j => .bl _) h2)
theorem n_ge (h : N X ω δ a fun ω1 c1 => N X ω1 δ b fun ω2 c2 => isI2 ω2 c1 c2 fun i j => Φ ω2 (.dat (.bool (decide (j ≤ i))))) : N X ω δ (.Compare a [.GtE] [b] pos) Φ :=
  n_cop op_ge (nomark _) (h.imp fun _ _ h1 => h1.imp fun _ _ h2 => op2_I0 (G := fun i j => .bool (decide (j ≤ i))) (fun _ _ i j => .bl _) h2)
theorem n_neg (h : N X ω δ a fun ω1 c1 => ∃ i, c1 = .dat (.int i) ∧ Φ ω1 (.dat (.int (-i)))) : N X ω δ (.UnaryOp .USub a pos) Φ :=
  n_op1 (pe_un un_neg (WE.pe X a)) (h.imp fun ω1 c1 ⟨i, e1, f⟩ x σ H Q s o q => by
    subst e1
    cases int_of o
    exact ⟨i, rfl, q ω1 _ _ H f s (Kp.refl _ _) (Rp.int _)⟩)
/-- == of data without dicts -/
theorem op2_eq {c1 c2 : Cell} (h : ∃ d1 d2, c1 = .dat d1 ∧ c2 = .dat d2 ∧ SeqAt.shaped d1 = true ∧ SeqAt.shaped d2 = true ∧ Φ ω (.dat (.bool (PyData.eqv d1 d2)))) : Op2 X (rEqD X.K) ω δ c1 c2 Φ := fun x y σ H Q s o1 o2 q => by
  obtain ⟨d1, d2, e1, e2, h1, h2, f⟩ := h
  subst e1; subst e2
  exact ⟨d1, d2, dp_of (SeqAt.canLay_of_shaped h1) (Rp.mono hid_same o1), dp_of (SeqAt.canLay_of_shaped h2) (Rp.mono hid_same o2), h1, h2, q ω _ _ H f s (Kp.refl _ _) (Rp.bl _)⟩
theorem op2_ne {c1 c2 : Cell} (h : ∃ d1 d2, c1 = .dat d1 ∧ c2 = .dat d2 ∧ SeqAt.shaped d1 = true ∧ SeqAt.shaped d2 = true ∧ Φ ω (.dat (.bool (!PyData.eqv d1 d2)))) : Op2 X (rNeD X.K) ω δ c1 c2 Φ := fun x y σ H Q s o1 o2 q => by
  obtain ⟨d1, d2, e1, e2, h1, h2, f⟩ := h
  subst e1; subst e2
  exact ⟨d1, d2, dp_of (SeqAt.canLay_of_shaped h1) (Rp.mono hid_same o1), dp_of (SeqAt.canLay_of_shaped h2) (Rp.mono hid_same o2), h1, h2, q ω _ _ H f s (Kp.refl _ _) (Rp.bl _)⟩
theorem n_eq (hu : X.A.units + 64 < cLine) (h : N X ω δ a fun ω1 c1 => N X ω1 δ b fun ω2 c2 => ∃ d1 d2, c1 = .dat d1 ∧ c2 = .dat d2 ∧ SeqAt.shaped d1 = true ∧ SeqAt.shaped d2 = true ∧ Φ ω2 (.dat (.bool (PyData.eqv d1 d2)))) : N X ω δ (.Compare a [.Eq] [b] pos) Φ :=
  n_cop (op_eqD hu) (nomark _) (h.imp fun _ _ h1 => h1.imp fun _ _ h2 => op2_eq h2)
theorem n_ne (hu : X.A.units + 64 < cLine) (h : N X ω δ a fun ω1 c1 => N X ω1 δ b fun ω2 c2 => ∃ d1 d2, c1 = .dat d1 ∧ c2 = .dat d2 ∧ SeqAt.shaped d1 = true ∧ SeqAt.shaped d2 = true ∧ Φ ω2 (.dat (.bool (!PyData.eqv d1 d2)))) : N X ω δ (.Compare a [.NotEq] [b] pos) Φ :=
  n_cop (op_neD hu) (nomark _) (h.imp fun _ _ h1 => h1.imp fun _ _ h2 => op2_ne h2)
/-- is None -/
def isNone : PyData → Bool
  | .none => true
  | _ => false
theorem rp_non {K : PySem.W.Frag} {H : Hp} {v : V} {d : PyData} (h : Rp K H v d) : decide (v = .non) = isNone d := by cases h <;> simp [isNone]
theorem n_isN (h : N X ω δ a fun ω1 c1 => ∃ d, c1 = .dat d ∧ Φ ω1 (.dat (.bool (isNone d)))) {j p2} : N X ω δ (.Compare a [.Is] [.Constant .none j p2] pos) Φ :=
  n_lift (pe_cmp (pc_isN (WE.pe X a))) fun σ H Q s q => h σ H _ s fun ω1 c v H1 ⟨d, e1, f1⟩ s1 k1 o1 => by
    subst e1
    show Q (.bl (decide (v = .non))) H1
    rw [rp_non o1]
    exact q ω1 _ _ H1 f1 s1 k1 (Rp.bl _)
theorem n_notN (h : N X ω δ a fun ω1 c1 => ∃ d, c1 = .dat d ∧ Φ ω1 (.dat (.bool (!isNone d)))) {j p2} : N X ω δ (.Compare a [.IsNot] [.Constant .none j p2] pos) Φ :=
  n_lift (pe_cmp (pc_notN (WE.pe X a))) fun σ H Q s q => h σ H _ s fun ω1 c v H1 ⟨d, e1, f1⟩ s1 k1 o1 => by
    subst e1
    show Q (.bl (!decide (v = .non))) H1
    rw [rp_non o1]
    exact q ω1 _ _ H1 f1 s1 k1 (Rp.bl _)
/-! ## sequences -/
theorem atI_rp {K : PySem.W.Frag} {H : Hp} {xs : List V} {ds : List PyData} {i : Int} {d : PyData} (r : RpA K H xs ds) (h : atI ds i = some d) : ∃ v, atI xs i = some v ∧ Rp K H v d := by
  unfold atI at h ⊢
  rw [r.len]
  cases q : ixN ds.length i with
  | none => rw [q] at h; cases h
  | some j =>
    rw [q] at h
    exact r.get h
theorem n_ixl (hp : PlainIx b) (h : N X ω δ a fun ω1 c1 => N X ω1 δ b fun ω2 c2 => ∃ ds i d, c1 = .dat (.list ds) ∧ c2 = .dat (.int i) ∧ atI ds i = some d ∧ Φ ω2 (.dat d)) : N X ω δ (.Subscript a b pos) Φ :=
  n_op2 (pe_ix ix_list (WE.pe X a) (WE.pe X b) hp) (h.imp fun _ _ h1 => h1.imp fun ω2 _ ⟨ds, i, d, e1, e2, hi, f⟩ x y σ H Q s o1 o2 q => by
    subst e1; subst e2
    cases int_of o2
    cases o1 with
    | @lst p xs ds hl hr =>
      obtain ⟨v, h1, h2⟩ := atI_rp hr hi
      exact ⟨p, xs, i, v, rfl, rfl, SqL.of (hid_some hl).2, h1, q ω2 _ v H f s (Kp.refl _ _) h2⟩)
theorem n_ixt (hp : PlainIx b) (h : N X ω δ a fun ω1 c1 => N X ω1 δ b fun ω2 c2 => ∃ ds i d, c1 = .dat (.tuple ds) ∧ c2 = .dat (.int i) ∧ atI ds i = some d ∧ Φ ω2 (.dat d)) : N X ω δ (.Subscript a b pos) Φ :=
  n_op2 (pe_ix ix_tup (WE.pe X a) (WE.pe X b) hp) (h.imp fun _ _ h1 => h1.imp fun ω2 _ ⟨ds, i, d, e1, e2, hi, f⟩ x y σ H Q s o1 o2 q => by
    subst e1; subst e2
    cases int_of o2
    cases o1 with
    | @tup p xs ds hl hr =>
      obtain ⟨v, h1, h2⟩ := atI_rp hr hi
      exact ⟨p, xs, i, v, rfl, rfl, sqt_hid hl, h1, q ω2 _ v H f s (Kp.refl _ _) h2⟩)
end
end DL

namespace DL
open PySem PySem.Spec L2
/-! ## argument lists, displays -/
section
variable {X : Cx} {ω : Ow} {δ : Env} {e a b c : Expr} {rest es : List Expr} {Φ : Ow → Cell → Prop} {ΦA : Ow → List Cell → Prop} {pos : Pos}
theorem na_nil (h : ΦA ω []) : NA X ω δ [] ΦA := fun σ H Q s q => WA.of pa_nil (q ω [] [] H h s (Kp.refl _ _) .nil)
theorem na_cons (h : N X ω δ e fun ω1 c1 => NA X ω1 δ es fun ω2 cs => ΦA ω2 (c1 :: cs)) (hs : starEach (e :: es) X.env = (false, eval e X.env) :: starEach es X.env := by rfl) : NA X ω δ (e :: es) ΦA := fun σ H Q s q =>
  WA.of (pa_cons (WE.pe X e) (WA.pa X es) hs) (h σ H _ s fun ω1 c1 v H1 f1 s1 k1 o1 => f1 σ H1 _ s1 fun ω2 cs vs H2 f2 s2 k2 o2 => q ω2 _ _ H2 f2 s2 (k1.trans k2) (.cons (o1.mono k2) o2))
def dats (ds : List PyData) : List Cell := ds.map .dat
theorem cells_rpa {K : PySem.W.Frag} {O : List Addr} {H : Hp} : ∀ {vs : List V} {ds : List PyData}, Cells K O H vs (dats ds) → RpA K (hid O H) vs ds
  | [], [], _ => .nil
  | _ :: _, _ :: _, h => by
    cases h with
    | cons h r => exact .cons h (cells_rpa r)
  | [], _ :: _, h => nomatch h
  | _ :: _, [], h => nomatch h
theorem sz1000 {n : Nat} (h : n ≤ 1000) : n ≤ sizeLine := Nat.le_trans h (by decide)
theorem n_tup {x1} (h : NA X ω δ es fun ω1 cs => ∃ ds, cs = dats ds ∧ ds.length ≤ 1000 ∧ Φ ω1 (.dat (.tuple ds))) : N X ω δ (.Tuple es x1 pos) Φ :=
  n_lift (pe_tup (WA.pa X es)) fun σ H Q s q => h σ H _ s fun ω1 cs vs H1 ⟨ds, e1, z, f⟩ s1 k1 o1 => by
    subst e1
    have r := cells_rpa o1
    refine ⟨by rw [r.len]; exact sz1000 z, fun p hp => ?_⟩
    exact q ω1 _ _ _ f (s1.new hp) (k1.trans (kp_new s1.own hp)) (new_tup s1.own hp r)
theorem n_lst (h : NA X ω δ es fun ω1 cs => ∃ ds, cs = dats ds ∧ ds.length ≤ 1000 ∧ Φ ω1 (.dat (.list ds))) : N X ω δ (.List es pos) Φ :=
  n_lift (pe_lst (WA.pa X es)) fun σ H Q s q => h σ H _ s fun ω1 cs vs H1 ⟨ds, e1, z, f⟩ s1 k1 o1 => by
    subst e1
    have r := cells_rpa o1
    refine ⟨by rw [r.len]; exact sz1000 z, fun p hp => ?_⟩
    exact q ω1 _ _ _ f (s1.new hp) (k1.trans (kp_new s1.own hp)) (new_lst s1.own hp r)
/-! ## owned lists -/
def lstP (ds : List PyData) : OwnP := ⟨fun K H o => ∃ vs, o = .lst vs ∧ RpA K H vs ds, fun K H H' o e ⟨vs, h1, h2⟩ => ⟨vs, h1, h2.mono e⟩⟩
theorem hid_upd {O : List Addr} {H : Hp} {p : Addr} {o : HO} (h : p ∈ O) : hid O (upd H p o) = hid O H := by
  funext b
  by_cases q : b ∈ O
  · rw [hid_in q, hid_in q]
  · rw [hid_out q, hid_out q, upd_ne (fun e => q (by rw [e]; exact h))]
theorem dom_set {ω : Ow} {i : Nat} {p : Addr} {P P' : OwnP} (h : ω[i]? = some (p, P)) : dom (ω.set i (p, P')) = dom ω := by
  unfold dom
  rw [List.map_set]
  apply List.ext_getElem?
  intro j
  rw [List.getElem?_set]
  split
  · rename_i e
    subst e
    have hl := (List.getElem?_eq_some_iff.mp h).1
    rw [List.length_map, if_pos hl, List.getElem?_map, h]
    rfl
  · rfl
theorem mem_dom {ω : Ow} {i : Nat} {p : Addr} {P : OwnP} (h : ω[i]? = some (p, P)) : p ∈ dom ω := List.mem_map.mpr ⟨(p, P), List.mem_of_getElem? h, rfl⟩
theorem kp_upd {O : List Addr} {H : Hp} {p : Addr} {o : HO} (h : p ∈ O) : Kp O H O (upd H p o) := by
  intro b u q
  rw [hid_upd h]
  exact q
theorem OwnOk.put {K : PySem.W.Frag} {ω : Ow} {H : Hp} {i : Nat} {p : Addr} {P P' : OwnP} {o : HO} (s : OwnOk K ω H) (h : ω[i]? = some (p, P)) (ho : P'.ok K (hid (dom ω) H) o) : OwnOk K (ω.set i (p, P')) (upd H p o) := by
  refine ⟨by rw [dom_set h]; exact s.nd, fun a R q => ?_⟩
  rw [dom_set h, hid_upd (mem_dom h)]
  have nd := s.nd
  obtain ⟨j, hj⟩ := List.getElem?_of_mem q
  rw [List.getElem?_set] at hj
  split at hj
  · split at hj
    · cases hj
      exact ⟨o, upd_same, ho⟩
    · cases hj
  · rename_i hij
    have hne : a ≠ p := by
      intro e
      have h1 : (dom ω)[i]? = some p := by unfold dom; rw [List.getElem?_map, h]; rfl
      have h2 : (dom ω)[j]? = some a := by unfold dom; rw [List.getElem?_map, hj]; rfl
      rw [e] at h2
      exact hij ((List.getElem?_inj (List.getElem?_eq_some_iff.mp h1).1 nd).mp (h1.trans h2.symm))
    obtain ⟨u, h1, h2⟩ := s.at_ a R (List.mem_of_getElem? hj)
    exact ⟨u, by rw [upd_ne hne]; exact h1, h2⟩
theorem StOk.put {K : PySem.W.Frag} {ω : Ow} {δ : Env} {σ : St} {H : Hp} {i : Nat} {p : Addr} {P P' : OwnP} {o : HO} (s : StOk K ω δ σ H) (h : ω[i]? = some (p, P)) (ho : P'.ok K (hid (dom ω) H) o) : StOk K (ω.set i (p, P')) δ σ (upd H p o) :=
  ⟨by rw [dom_set h]; exact s.env.mono (kp_upd (mem_dom h)), s.own.put h ho⟩
/-- a new owned object -/
theorem OwnOk.cons {K : PySem.W.Frag} {ω : Ow} {H : Hp} {p : Addr} {P : OwnP} {o : HO} (s : OwnOk K ω H) (hp : H p = none) (ho : P.ok K (hid (dom ω) H) o) : OwnOk K ((p, P) :: ω) (upd H p o) ∧ Kp (dom ω) H (dom ((p, P) :: ω)) (upd H p o) := by
  have k : Kp (dom ω) H (dom ((p, P) :: ω)) (upd H p o) := fun b u q => by
    obtain ⟨h1, h2⟩ := hid_some q
    have hb : b ≠ p := ne_of_none h2 hp
    have hb2 : b ∉ dom ((p, P) :: ω) := fun z => (List.mem_cons.mp z).elim hb h1
    rw [hid_out hb2, upd_ne hb]
    exact h2
  refine ⟨⟨List.nodup_cons.mpr ⟨s.notin hp, s.nd⟩, fun a R q => ?_⟩, k⟩
  rcases List.mem_cons.mp q with e | q
  · cases e
    exact ⟨o, upd_same, P.mono _ _ _ _ k ho⟩
  · obtain ⟨u, h1, h2⟩ := s.at_ a R q
    exact ⟨u, by rw [upd_ne (ne_of_none h1 hp)]; exact h1, R.mono _ _ _ _ k h2⟩
theorem StOk.cons {K : PySem.W.Frag} {ω : Ow} {δ : Env} {σ : St} {H : Hp} {p : Addr} {P : OwnP} {o : HO} (s : StOk K ω δ σ H) (hp : H p = none) (ho : P.ok K (hid (dom ω) H) o) : StOk K ((p, P) :: ω) δ σ (upd H p o) :=
  ⟨s.env.mono (s.own.cons hp ho).2, (s.own.cons hp ho).1⟩
/-- the first owned object is let go: what it holds is data from now on -/
theorem kp_drop {ω : Ow} {H : Hp} {p : Addr} {P : OwnP} : Kp (dom ((p, P) :: ω)) H (dom ω) H := fun b u q => by
  obtain ⟨h1, h2⟩ := hid_some q
  rw [hid_out (fun z => h1 (List.mem_cons_of_mem _ z))]
  exact h2
theorem OwnOk.drop {K : PySem.W.Frag} {ω : Ow} {H : Hp} {p : Addr} {P : OwnP} (s : OwnOk K ((p, P) :: ω) H) : OwnOk K ω H := by
  have nd := List.nodup_cons.mp s.nd
  refine ⟨nd.2, fun a R q => ?_⟩
  obtain ⟨u, h1, h2⟩ := s.at_ a R (List.mem_cons_of_mem _ q)
  exact ⟨u, h1, R.mono _ _ _ _ kp_drop h2⟩
theorem StOk.drop {K : PySem.W.Frag} {ω : Ow} {δ : Env} {σ : St} {H : Hp} {p : Addr} {P : OwnP} (s : StOk K ((p, P) :: ω) δ σ H) : StOk K ω δ σ H := ⟨s.env.mono kp_drop, s.own.drop⟩
theorem own_lst {K : PySem.W.Frag} {ω : Ow} {H : Hp} {p : Addr} {ds : List PyData} (s : OwnOk K ((p, lstP ds) :: ω) H) : Rp K (hid (dom ω) H) (.ref p) (.list ds) := by
  obtain ⟨o, h1, vs, rfl, h2⟩ := s.at_ p _ List.mem_cons_self
  have nd := List.nodup_cons.mp s.nd
  exact .lst (by rw [hid_out nd.1]; exact h1) (h2.mono kp_drop)
/-- a new list that may grow -/
theorem n_lstO (h : NA X ω δ es fun ω1 cs => ∃ ds, cs = dats ds ∧ ds.length ≤ 1000 ∧ ∀ p, Φ ((p, lstP ds) :: ω1) (.raw (.ref p))) : N X ω δ (.List es pos) Φ :=
  n_lift (pe_lst (WA.pa X es)) fun σ H Q s q => h σ H _ s fun ω1 cs vs H1 ⟨ds, e1, z, f⟩ s1 k1 o1 => by
    subst e1
    have r := cells_rpa o1
    refine ⟨by rw [r.len]; exact sz1000 z, fun p hp => ?_⟩
    have ho : (lstP ds).ok X.K (hid (dom ω1) H1) (.lst vs) := ⟨vs, rfl, r⟩
    exact q _ _ _ _ (f p) (s1.cons hp ho) (k1.trans (s1.own.cons hp ho).2) rfl
/-- the name of the first owned list, read to be handed on: from now on it is data -/
theorem n_share (i : Nat) {x : Str} {p : Addr} {ds : List PyData} (h : Φ ω (.dat (.list ds))) (hd : δ[i]? = some (some (.raw (.ref p))) := by rfl) (hN : X.N[i]? = some x := by rfl) (hv : Vis X.env.scope x := by first | exact Or.inl rfl | exact Or.inr (Or.inl rfl) | exact Or.inr (Or.inr rfl))
    (hg : (x == ("__debug__" : Str)) = false := by decide) (hcd : (x == ("__classdict__" : Str)) = false := by decide) : N X ((p, lstP ds) :: ω) δ (.Name x pos) Φ :=
  n_lift (pe_var hN hv hg hcd) fun σ H Q s q => by
    obtain ⟨v, h1, h2⟩ := s.get hd
    cases h2
    exact ⟨_, h1, q ω _ _ H h s.drop kp_drop (own_lst s.own)⟩
end
/-! ## blocks -/
section
variable {X : Cx} {ω : Ow} {δ : Env} {e a b c : Expr} {st : Stmt} {rest body orelse : List Stmt} {E : En} {pos : Pos}
theorem b_nil (h : E.nx ω δ) : B X ω δ [] E := fun σ H D s f => WB.of pss_nil (f.nx ω δ σ H h s (Kp.refl _ _))
theorem b_cons (h : S X ω δ st { E with nx := fun ω1 δ1 => B X ω1 δ1 rest E }) : B X ω δ (st :: rest) E := fun σ H D s f =>
  WB.of (pss_cons (WS.ps X st) (WB.pss X rest)) (h σ H { D with nx := fun σ' H' => WB X rest D σ' H' } s ⟨fun ω1 δ1 σ1 H1 q s1 k1 => q σ1 H1 D s1 (f.after k1), f.rt, f.bk, f.ct⟩)
theorem b_one (h : S X ω δ st E) : B X ω δ [st] E := fun σ H D s f => WB.of (pss_one (WS.ps X st)) (h σ H D s f)
theorem StOk.store {K : PySem.W.Frag} {ω : Ow} {δ : Env} {σ : St} {H : Hp} {v : V} {c : Cell} (s : StOk K ω δ σ H) (i : Nat) (h : CellOk K (dom ω) H v c) : StOk K ω (δ.set i (some c)) (σ.set i (some v)) H := ⟨s.env.set h i, s.own⟩
theorem s_set (i : Nat) {x : Str} {p2 : Pos} (hN : X.N.Nodup) (h : N X ω δ e fun ω1 c => E.nx ω1 (δ.set i (some c))) (hi : X.N[i]? = some x := by rfl) (hx : Loc X.env.scope x := by first | exact Or.inl rfl | exact Or.inr rfl) (hs : swapsWith e (some (.Name x p2)) pos.line X.env = pure false := by rfl)
    (hf : X.fn x = true ∨ X.env.scope.names.lookup x = some .local := by first | exact .inl rfl | exact .inr rfl | assumption) : S X ω δ (.Assign [.Name x p2] e pos) E := fun σ H D s f =>
  WS.of (ps_set hN hi hx (WE.pe X e) hs hf) (h σ H _ s fun ω1 c v H1 q s1 k1 o1 => f.nx ω1 _ _ H1 q (s1.store i o1) k1)
theorem s_ret (h : N X ω δ e fun ω1 c => E.rt ω1 c) : S X ω δ (.Return (some e) pos) E := fun σ H D s f =>
  WS.of (ps_ret (WE.pe X e)) (h σ H _ s fun ω1 c v H1 q s1 k1 o1 => f.rt ω1 c v H1 q s1.own k1 o1)
theorem s_retN (h : E.rt ω (.dat .none)) : S X ω δ (.Return none pos) E := fun σ H D s f => WS.of ps_retN (f.rt ω _ _ H h s.own (Kp.refl _ _) Rp.non)
theorem s_if (h : NT X ω δ c fun ω1 k => if k = true then B X ω1 δ body E else B X ω1 δ orelse E) : S X ω δ (.If c body orelse pos) E := fun σ H D s f =>
  WS.of (ps_if (WT.pt X c) (WB.pss X body) (WB.pss X orelse)) (h σ H _ s fun ω1 k H1 q s1 k1 => by
    cases k with
    | true => exact q σ H1 D s1 (f.after k1)
    | false => exact q σ H1 D s1 (f.after k1))
theorem s_expr (h : N X ω δ e fun ω1 _ => E.nx ω1 δ) (hs : swapsWith e none pos.line X.env = pure false := by rfl) : S X ω δ (.Expr e pos) E := fun σ H D s f =>
  WS.of (ps_expr (WE.pe X e) hs) (h σ H _ s fun ω1 c v H1 q s1 k1 o1 => f.nx ω1 δ σ H1 q s1 k1)
theorem s_pass (h : E.nx ω δ) : S X ω δ (.Pass pos) E := fun σ H D s f => WS.of ps_pass (f.nx ω δ σ H h s (Kp.refl _ _))
theorem s_break (h : E.bk ω δ) : S X ω δ (.Break pos) E := fun σ H D s f => WS.of ps_break (f.bk ω δ σ H h s (Kp.refl _ _))
theorem s_continue (h : E.ct ω δ) : S X ω δ (.Continue pos) E := fun σ H D s f => WS.of ps_continue (f.ct ω δ σ H h s (Kp.refl _ _))
theorem s_augI (i : Nat) {x : Str} {p2 : Pos} {n : Int} (hN : X.N.Nodup) (hd : δ[i]? = some (some (.dat (.int n)))) (h : N X ω δ e fun ω1 c => ∃ m, c = .dat (.int m) ∧ E.nx ω1 (δ.set i (some (.dat (.int (n + m)))))) (hi : X.N[i]? = some x := by rfl) (hx : Loc X.env.scope x := by first | exact Or.inl rfl | exact Or.inr rfl)
    (hf : X.fn x = true ∨ X.env.scope.names.lookup x = some .local := by first | exact .inl rfl | exact .inr rfl | assumption) : S X ω δ (.AugAssign (.Name x p2) .Add e pos) E := fun σ H D s f =>
  WS.of (ps_aug hN hi hx (WE.pe X e) ip_add hf) (by
    obtain ⟨v, h1, h2⟩ := s.get hd
    cases int_of h2
    refine ⟨_, h1, h σ H _ s fun ω1 c v H1 ⟨m, e1, q⟩ s1 k1 o1 => ?_⟩
    subst e1
    cases int_of o1
    exact ⟨n, m, rfl, rfl, f.nx ω1 _ _ H1 q (s1.store i (c := .dat (.int (n + m))) (Rp.int _)) k1⟩)
/-- a, b = x, y: two plain local names, stored from the right; no pair is seen -/
theorem s_par (i j : Nat) {x y : Str} {px py pt : Pos} {kt k2 pt2} (hc : X.calm = true) (hN : X.N.Nodup) (h : NA X ω δ [a, b] fun ω1 cs => ∃ c1 c2, cs = [c1, c2] ∧ E.nx ω1 ((δ.set i (some c1)).set j (some c2)))
    (hij : i ≠ j := by decide) (hi : X.N[i]? = some x := by rfl) (hj : X.N[j]? = some y := by rfl) (hx : X.env.scope.names.lookup x = some .local := by rfl) (hy : X.env.scope.names.lookup y = some .local := by rfl)
    (hw : swappedStores [.Tuple [.Name x px, .Name y py] kt pt] (.Tuple [a, b] k2 pt2) X.env = pure (some [x, y]) := by rfl)
    (hs : swapsWithSole [.Tuple [.Name x px, .Name y py] kt pt] (.Tuple [a, b] k2 pt2) pos.line X.env = pure false := by rfl) : S X ω δ (.Assign [.Tuple [.Name x px, .Name y py] kt pt] (.Tuple [a, b] k2 pt2) pos) E := fun σ H D s f =>
  WS.of (ps_par hc hN hi hj hij hx hy (WA.pa X _) hw hs) (h σ H _ s fun ω1 cs vs H1 ⟨c1, c2, e1, q⟩ s1 k1 o1 => by
    subst e1
    cases o1 with
    | cons o1 r =>
      cases r with
      | cons o2 r =>
        cases r
        exact ⟨_, _, rfl, f.nx ω1 _ _ H1 q ((s1.store i o1).store j o2) k1⟩)
end
end DL

namespace DL
open PySem PySem.Spec L2
section
variable {X : Cx} {ω : Ow} {δ : Env} {e a b c : Expr} {rest es : List Expr} {Φ : Ow → Cell → Prop} {ΦA : Ow → List Cell → Prop} {pos p1 p2 : Pos} {x : Str}
/-! ## calls of built-ins -/
def CallD (X : Cx) (r : List V → Hp → VK → Prop) (ω : Ow) (δ : Env) (cs : List Cell) (Φ : Ow → Cell → Prop) : Prop :=
  ∀ vs σ H Q, StOk X.K ω δ σ H → Cells X.K (dom ω) H vs cs → (∀ ω' c v H', Φ ω' c → StOk X.K ω' δ σ H' → Kp (dom ω) H (dom ω') H' → CellOk X.K (dom ω') H' v c → Q v H') → r vs H Q
theorem n_callB {id : String} {r : List V → Hp → VK → Prop} (hc : CallR X (.builtin id) r) (hm : X.mg x = none) (h : NA X ω δ (e :: es) fun ω1 cs => CallD X r ω1 δ cs Φ) (hg : Gl X x := by rfl) (hv : bootBuiltins x = some (.builtin id) := by decide +kernel)
    (hn : x ≠ "__name__" := by decide) (hdb : (x == ("__debug__" : Str)) = false := by decide)
    (he : starEach (e :: es) X.env = (false, eval e X.env) :: starEach es X.env := by rfl) (hpl : (backTo pos (starEach es X.env)).any (·.1) = false := by rfl) : N X ω δ (.Call (.Name x p1) (e :: es) [] pos) Φ :=
  n_lift (pe_callB hc hg hm hv (WA.pa X _) hn hdb he hpl) fun σ H Q s q => h σ H _ s fun ω1 cs vs H1 f s1 k1 o1 => f vs σ H1 Q s1 o1 fun ω2 c v H2 f2 s2 k2 o2 => q ω2 c v H2 f2 s2 (k1.trans k2) o2
theorem n_callTy {T : String} {r : List V → Hp → VK → Prop} (hc : CallR X (.type T) r) (hm : X.mg x = none) (h : NA X ω δ (e :: es) fun ω1 cs => CallD X r ω1 δ cs Φ) (hg : Gl X x := by rfl) (hv : bootBuiltins x = some (.type T) := by decide +kernel)
    (hn : x ≠ "__name__" := by decide) (hdb : (x == ("__debug__" : Str)) = false := by decide)
    (he : starEach (e :: es) X.env = (false, eval e X.env) :: starEach es X.env := by rfl) (hpl : (backTo pos (starEach es X.env)).any (·.1) = false := by rfl) : N X ω δ (.Call (.Name x p1) (e :: es) [] pos) Φ :=
  n_lift (pe_callTy hc hg hm hv (WA.pa X _) hn hdb he hpl) fun σ H Q s q => h σ H _ s fun ω1 cs vs H1 f s1 k1 o1 => f vs σ H1 Q s1 o1 fun ω2 c v H2 f2 s2 k2 o2 => q ω2 c v H2 f2 s2 (k1.trans k2) o2
theorem cells1 {K : PySem.W.Frag} {O : List Addr} {H : Hp} {vs : List V} {c : Cell} (h : Cells K O H vs [c]) : ∃ v, vs = [v] ∧ CellOk K O H v c := by
  cases h with
  | cons o r => cases r; exact ⟨_, rfl, o⟩
theorem cells2 {K : PySem.W.Frag} {O : List Addr} {H : Hp} {vs : List V} {c d : Cell} (h : Cells K O H vs [c, d]) : ∃ v w, vs = [v, w] ∧ CellOk K O H v c ∧ CellOk K O H w d := by
  cases h with
  | cons o r =>
    cases r with
    | cons o2 r => cases r; exact ⟨_, _, rfl, o, o2⟩
/-- the length of a datum -/
def lenD : PyData → Option Nat
  | .list ds => some ds.length
  | .tuple ds => some ds.length
  | _ => none
theorem n_len (hm : X.mg "len" = none) (h : N X ω δ a fun ω1 c => ∃ d n, c = .dat d ∧ lenD d = some n ∧ Φ ω1 (.dat (.int (n : Int)))) (hg : Gl X "len" := by rfl) (he : starEach [a] X.env = (false, eval a X.env) :: starEach [] X.env := by rfl) : N X ω δ (.Call (.Name "len" p1) [a] [] pos) Φ :=
  n_callB call_len_seq hm (na_cons (h.imp fun ω1 c ⟨d, n, e1, e2, f⟩ => na_nil fun vs σ H Q s o q => by
    subst e1
    obtain ⟨v, rfl, ov⟩ := cells1 o
    cases ov with
    | lst hl r =>
      obtain rfl := Option.some.inj e2
      exact ⟨_, _, rfl, .inl (SqL.of (hid_some hl).2), by rw [r.len]; exact q ω1 _ _ H f s (Kp.refl _ _) (Rp.int _)⟩
    | tup hl r =>
      obtain rfl := Option.some.inj e2
      exact ⟨_, _, rfl, .inr (sqt_hid hl), by rw [r.len]; exact q ω1 _ _ H f s (Kp.refl _ _) (Rp.int _)⟩
    | _ => exact absurd e2 (by simp [lenD])) he) hg (he := he)
theorem n_abs (hm : X.mg "abs" = none) (h : N X ω δ a fun ω1 c => ∃ i, c = .dat (.int i) ∧ Φ ω1 (.dat (.int (if i < 0 then -i else i)))) (hg : Gl X "abs" := by rfl) (he : starEach [a] X.env = (false, eval a X.env) :: starEach [] X.env := by rfl) : N X ω δ (.Call (.Name "abs" p1) [a] [] pos) Φ :=
  n_callB call_abs hm (na_cons (h.imp fun ω1 c ⟨i, e1, f⟩ => na_nil fun vs σ H Q s o q => by
    subst e1
    obtain ⟨v, rfl, ov⟩ := cells1 o
    cases int_of ov
    exact ⟨i, rfl, q ω1 _ _ H f s (Kp.refl _ _) (Rp.int _)⟩) he) hg (he := he)
theorem n_intI (hm : X.mg "int" = none) (h : N X ω δ a fun ω1 c => ∃ i, c = .dat (.int i) ∧ Φ ω1 (.dat (.int i))) (hg : Gl X "int" := by rfl) (he : starEach [a] X.env = (false, eval a X.env) :: starEach [] X.env := by rfl) : N X ω δ (.Call (.Name "int" p1) [a] [] pos) Φ :=
  n_callTy call_int1 hm (na_cons (h.imp fun ω1 c ⟨i, e1, f⟩ => na_nil fun vs σ H Q s o q => by
    subst e1
    obtain ⟨v, rfl, ov⟩ := cells1 o
    cases int_of ov
    exact .inl ⟨i, rfl, q ω1 _ _ H f s (Kp.refl _ _) (Rp.int _)⟩) he) hg (he := he)
/-- list(x) as new data -/
theorem n_listOf (hm : X.mg "list" = none) (h : N X ω δ a fun ω1 c => ∃ ds, (c = .dat (.list ds) ∨ c = .dat (.tuple ds)) ∧ Φ ω1 (.dat (.list ds))) (hg : Gl X "list" := by rfl) (he : starEach [a] X.env = (false, eval a X.env) :: starEach [] X.env := by rfl) : N X ω δ (.Call (.Name "list" p1) [a] [] pos) Φ :=
  n_callTy call_list_of hm (na_cons (h.imp fun ω1 c ⟨ds, e1, f⟩ => na_nil fun vs σ H Q s o q => by
    obtain ⟨v, rfl, ov⟩ := cells1 o
    rcases e1 with rfl | rfl
    · cases ov with
      | lst hl r => exact ⟨_, _, rfl, .inl (SqL.of (hid_some hl).2), fun l hn => q ω1 _ _ _ f (s.new hn) (kp_new s.own hn) (new_lst s.own hn r)⟩
    · cases ov with
      | tup hl r => exact ⟨_, _, rfl, .inr (sqt_hid hl), fun l hn => q ω1 _ _ _ f (s.new hn) (kp_new s.own hn) (new_lst s.own hn r)⟩) he) hg (he := he)
/-- .. as an owned list -/
theorem n_listOfO (hm : X.mg "list" = none) (h : N X ω δ a fun ω1 c => ∃ ds, (c = .dat (.list ds) ∨ c = .dat (.tuple ds)) ∧ ∀ p, Φ ((p, lstP ds) :: ω1) (.raw (.ref p))) (hg : Gl X "list" := by rfl) (he : starEach [a] X.env = (false, eval a X.env) :: starEach [] X.env := by rfl) : N X ω δ (.Call (.Name "list" p1) [a] [] pos) Φ :=
  n_callTy call_list_of hm (na_cons (h.imp fun ω1 c ⟨ds, e1, f⟩ => na_nil fun vs σ H Q s o q => by
    obtain ⟨v, rfl, ov⟩ := cells1 o
    rcases e1 with rfl | rfl
    · cases ov with
      | @lst _ xs _ hl r =>
        have ho : (lstP ds).ok X.K (hid (dom ω1) H) (.lst xs) := ⟨xs, rfl, r⟩
        exact ⟨_, _, rfl, .inl (SqL.of (hid_some hl).2), fun l hn => q _ _ _ _ (f l) (s.cons hn ho) (s.own.cons hn ho).2 rfl⟩
    · cases ov with
      | @tup _ xs _ hl r =>
        have ho : (lstP ds).ok X.K (hid (dom ω1) H) (.lst xs) := ⟨xs, rfl, r⟩
        exact ⟨_, _, rfl, .inr (sqt_hid hl), fun l hn => q _ _ _ _ (f l) (s.cons hn ho) (s.own.cons hn ho).2 rfl⟩) he) hg (he := he)
theorem n_tupleOf (hm : X.mg "tuple" = none) (h : N X ω δ a fun ω1 c => ∃ ds, (c = .dat (.list ds) ∨ c = .dat (.tuple ds)) ∧ Φ ω1 (.dat (.tuple ds))) (hg : Gl X "tuple" := by rfl) (he : starEach [a] X.env = (false, eval a X.env) :: starEach [] X.env := by rfl) : N X ω δ (.Call (.Name "tuple" p1) [a] [] pos) Φ :=
  n_callTy call_tuple_of hm (na_cons (h.imp fun ω1 c ⟨ds, e1, f⟩ => na_nil fun vs σ H Q s o q => by
    obtain ⟨v, rfl, ov⟩ := cells1 o
    rcases e1 with rfl | rfl
    · cases ov with
      | lst hl r => exact ⟨_, _, rfl, .inl ⟨SqL.of (hid_some hl).2, fun l hn => q ω1 _ _ _ f (s.new hn) (kp_new s.own hn) (new_tup s.own hn r)⟩⟩
    · cases ov with
      | tup hl r => exact ⟨_, _, rfl, .inr ⟨sqt_hid hl, q ω1 _ _ H f s (Kp.refl _ _) (.tup hl r)⟩⟩) he) hg (he := he)
/-- what class a datum has -/
def tyD : PyData → String
  | .none => "NoneType"
  | .bool _ => "bool"
  | .int _ => "int"
  | .str _ => "str"
  | .list _ => "list"
  | .tuple _ => "tuple"
  | .dict _ => "dict"
theorem tyx_of {K : PySem.W.Frag} {O : List Addr} {H : Hp} {v : V} {d : PyData} (h : Rp K (hid O H) v d) : TyX K H v (.type (tyD d)) := by
  cases h with
  | non => exact .base .non
  | bl b => exact .base (.bl b)
  | int i => exact .base (.int i)
  | str y => exact .base (.str y)
  | lst hl _ => exact .base (.lst (hid_some hl).2)
  | tup hl _ =>
    rcases hl with (hl | ⟨o, hl⟩) | ⟨o, its, n, hk, hc, _⟩
    · exact .base (.tup (hid_some hl).2)
    · exact .fTuple (hid_some hl).2
    · exact .kTuple hk hc
  | dic hl _ => exact .base (.dK (hid_some hl).2)
inductive Ty where
  | int | bool | str | list | tuple | dict
def Ty.name : Ty → String
  | .int => "int"
  | .bool => "bool"
  | .str => "str"
  | .list => "list"
  | .tuple => "tuple"
  | .dict => "dict"
def isT : Ty → PyData → Bool
  | .int, .int _ => true
  | .int, .bool _ => true
  | .bool, .bool _ => true
  | .str, .str _ => true
  | .list, .list _ => true
  | .tuple, .tuple _ => true
  | .dict, .dict _ => true
  | _, _ => false
theorem kit_all (T : Ty) (d : PyData) : kitB (tyD d) T.name = some (isT T d) := by
  cases T <;> cases d <;> simp only [tyD, Ty.name, isT] <;> decide +kernel
theorem n_isi (T : Ty) {y : Str} (hm : X.mg "isinstance" = none) (hy : X.mg y = none) (h : N X ω δ a fun ω1 c => ∃ d, c = .dat d ∧ Φ ω1 (.dat (.bool (isT T d)))) (hv : bootBuiltins y = some (.type T.name) := by decide +kernel)
    (hg : Gl X "isinstance" := by rfl) (hgy : Gl X y := by rfl) (hn : y ≠ "__name__" := by decide) (hdb : (y == ("__debug__" : Str)) = false := by decide)
    (he : starEach [a, .Name y p2] X.env = (false, eval a X.env) :: starEach [.Name y p2] X.env := by rfl) (he2 : starEach [.Name y p2] X.env = (false, eval (.Name y p2) X.env) :: starEach [] X.env := by rfl)
    (hpl : (backTo pos (starEach [.Name y p2] X.env)).any (·.1) = false := by rfl) : N X ω δ (.Call (.Name "isinstance" p1) [a, .Name y p2] [] pos) Φ :=
  n_callB call_isi hm (na_cons (h.imp fun ω1 c ⟨d, e1, f⟩ => na_cons (n_lift (Φ := fun ω2 c2 => ω2 = ω1 ∧ c2 = .raw (.ty T.name)) (pe_bltn (v := .ty T.name) hgy hy hv rfl hn hdb) (fun σ H Q s q => q ω1 _ _ H ⟨rfl, rfl⟩ s (Kp.refl _ _) rfl) |>.imp fun ω2 c2 ⟨e2, e3⟩ => na_nil fun vs σ H Q s o q => by
    subst e1; subst e2; subst e3
    obtain ⟨v, w, rfl, ov, ow⟩ := cells2 o
    cases ow
    exact ⟨v, .ty T.name, .type (tyD d), .type T.name, _, rfl, .ty T.name, tyx_of ov, kit_ty (kit_all T d), q ω2 _ _ H f s (Kp.refl _ _) (Rp.bl _)⟩) he2) he) hg (he := he) (hpl := hpl)
/-- a constant of the module that is a datum -/
theorem n_globD {u : Value} {v : V} {d : PyData} (hm : X.mg x = some u) (hr : RelV v u) (hd : ∀ H, Rp X.K H v d) (h : Φ ω (.dat d)) (hg : Gl X x := by rfl) (hdb : (x == ("__debug__" : Str)) = false := by decide) : N X ω δ (.Name x pos) Φ :=
  n_lift (pe_glob hg hm hr hdb) fun σ H Q s q => q ω _ _ H h s (Kp.refl _ _) (hd _)
/-- x in a tuple or a list of flat things -/
def flatD : PyData → Bool
  | .none => true
  | .bool _ => true
  | .int _ => true
  | .str _ => true
  | _ => false
def valD : PyData → V
  | .none => .non
  | .bool b => .bl b
  | .int i => .int i
  | .str y => .str y
  | _ => .non
def inD (d : PyData) (ds : List PyData) : Bool := inV (valD d) (ds.map valD)
theorem flat_val {K : PySem.W.Frag} {H : Hp} {v : V} {d : PyData} (h : Rp K H v d) (hf : flatD d = true) : v = valD d ∧ flatV v = true := by
  cases h <;> first | exact ⟨rfl, rfl⟩ | cases hf
theorem flat_vals {K : PySem.W.Frag} {H : Hp} : ∀ {vs : List V} {ds : List PyData}, RpA K H vs ds → ds.all flatD = true → vs = ds.map valD ∧ vs.all flatV = true
  | _, _, .nil, _ => ⟨rfl, rfl⟩
  | _, _, .cons h r, hf => by
    rw [List.all_cons, Bool.and_eq_true] at hf
    obtain ⟨h1, h2⟩ := flat_val h hf.1
    obtain ⟨h3, h4⟩ := flat_vals r hf.2
    rw [List.map_cons, ← h1, ← h3]
    exact ⟨rfl, by rw [List.all_cons, h2, h4]; rfl⟩
theorem op2_in {c1 c2 : Cell} (h : ∃ d ds, c1 = .dat d ∧ (c2 = .dat (.tuple ds) ∨ c2 = .dat (.list ds)) ∧ flatD d = true ∧ ds.all flatD = true ∧ Φ ω (.dat (.bool (inD d ds)))) : Op2 X (rIn X.K false) ω δ c1 c2 Φ := fun x y σ H Q s o1 o2 q => by
  obtain ⟨d, ds, e1, e2, h1, h2, f⟩ := h
  subst e1
  obtain ⟨g1, g2⟩ := flat_val o1 h1
  rcases e2 with rfl | rfl
  · cases o2 with
    | tup hl r =>
      obtain ⟨g3, g4⟩ := flat_vals r h2
      exact ⟨_, _, rfl, .inr (sqt_hid hl), g2, g4, by rw [if_neg (by decide), g1, g3]; exact q ω _ _ H f s (Kp.refl _ _) (Rp.bl _)⟩
  · cases o2 with
    | lst hl r =>
      obtain ⟨g3, g4⟩ := flat_vals r h2
      exact ⟨_, _, rfl, .inl (SqL.of (hid_some hl).2), g2, g4, by rw [if_neg (by decide), g1, g3]; exact q ω _ _ H f s (Kp.refl _ _) (Rp.bl _)⟩
theorem n_in (hm : behindInMarks .In b = false) (h : N X ω δ a fun ω1 c1 => N X ω1 δ b fun ω2 c2 => ∃ d ds, c1 = .dat d ∧ (c2 = .dat (.tuple ds) ∨ c2 = .dat (.list ds)) ∧ flatD d = true ∧ ds.all flatD = true ∧ Φ ω2 (.dat (.bool (inD d ds)))) : N X ω δ (.Compare a [.In] [b] pos) Φ :=
  n_cop op_in_seq hm (h.imp fun _ _ h1 => h1.imp fun _ _ h2 => op2_in h2)
/-- a < b < c and their likes over ints -/
theorem n_chainI {op op' : CmpOp} {g g' : Int → Int → Bool} (ho : OpR X (compareOp op) (rI0 fun i j => .bl (g i j))) (ho' : OpR X (compareOp op') (rI0 fun i j => .bl (g' i j)))
    (h : N X ω δ a fun ω1 c1 => N X ω1 δ b fun ω2 c2 => ∃ i j, c1 = .dat (.int i) ∧ c2 = .dat (.int j) ∧ if g i j = true then N X ω2 δ c (fun ω3 c3 => ∃ k, c3 = .dat (.int k) ∧ Φ ω3 (.dat (.bool (g' j k)))) else Φ ω2 (.dat (.bool false)))
    (hl : lastMarks [op, op'] [b, c] = false := by rfl) : N X ω δ (.Compare a [op, op'] [b, c] pos) Φ :=
  n_lift (pe_chain ho ho' (WE.pe X a) (WE.pe X b) (WE.pe X c) hl) fun σ H Q s q => h σ H _ s fun ω1 c1 v1 H1 f1 s1 k1 o1 => f1 σ H1 _ s1 fun ω2 c2 v2 H2 ⟨i, j, e1, e2, f2⟩ s2 k2 o2 => by
    subst e1; subst e2
    cases int_of o1; cases int_of o2
    refine ⟨i, j, rfl, rfl, g i j, rfl, ?_⟩
    cases hg : g i j with
    | true =>
      rw [hg] at f2
      exact f2 σ H2 _ s2 fun ω3 c3 v3 H3 ⟨k, e3, f3⟩ s3 k3 o3 => by
        subst e3
        cases int_of o3
        exact ⟨j, k, rfl, rfl, q ω3 _ _ H3 f3 s3 (k1.trans (k2.trans k3)) (Rp.bl _)⟩
    | false =>
      rw [hg] at f2
      exact q ω2 _ _ H2 f2 s2 (k1.trans k2) (Rp.bl false)
end
end DL

namespace DL
open PySem PySem.Spec L2
/-! ## promises over data -/
abbrev Con := List Cell → Ow → (Ow → Cell → Prop) → Prop
def spD (K : PySem.W.Frag) (C : Con) : Sp := fun vs H Q _ => ∃ ω cs Φ, Cells K (dom ω) H vs cs ∧ OwnOk K ω H ∧ C cs ω Φ ∧ ∀ ω' c v H', Φ ω' c → OwnOk K ω' H' → Kp (dom ω) H (dom ω') H' → CellOk K (dom ω') H' v c → Q v H'
theorem Cells.len {K : PySem.W.Frag} {O : List Addr} {H : Hp} : ∀ {vs : List V} {cs : List Cell}, Cells K O H vs cs → vs.length = cs.length
  | _, _, .nil => rfl
  | _, _, .cons _ r => by simp [Cells.len r]
/-- a plain promise: data in, one datum out -/
def pureC (F : List PyData → Option PyData) : Con := fun cs ω Φ => ∃ ds d, cs = dats ds ∧ F ds = some d ∧ Φ ω (.dat d)
def startE (N : List Str) (cs : List Cell) : Env := cs.map some ++ List.replicate (N.length - cs.length) none
theorem env_blank {K : PySem.W.Frag} {O : List Addr} {H : Hp} : ∀ n : Nat, EnvOk K O H (List.replicate n none) (List.replicate n none)
  | 0 => trivial
  | n + 1 => ⟨fun x q => (nomatch q), env_blank n⟩
theorem env_start {K : PySem.W.Frag} {O : List Addr} {H : Hp} : ∀ {vs : List V} {cs : List Cell} (n : Nat), Cells K O H vs cs → EnvOk K O H (vs.map some ++ List.replicate n none) (cs.map some ++ List.replicate n none)
  | _, _, n, .nil => env_blank n
  | _, _, n, .cons h r => ⟨fun x q => by cases q; exact ⟨_, rfl, h⟩, env_start n r⟩
section
variable {P : Program} {w : World} {K : PySem.W.Frag} {mg : Str → Option Value} {base : Heap} {x qual : Str} {st : Stmt} {f : Addr} {fd : FuncData} {Nm ps : List Str} {k : Nat} {C : Con}
/-- a def of the program: its promise, by its body -/
theorem okD (F : Fun K x qual st f fd) (sc : FnScope Nm ps (defScope st)) (len : ∀ cs ω Φ, C cs ω Φ → cs.length = ps.length)
    (body : ∀ (X : Cx) (cdv : Value) (A : Around) (outer : List PySem.Env) (s : Shared) (H : Hp) (E : XK), X = (cxOf CX0 P w K mg base Nm qual (defScope st) f cdv A outer s H E).nox → Room k X.A → ∀ cs ω Φ, C cs ω Φ → B X ω (startE Nm cs) (defBody st) { nx := fun ω' _ => Φ ω' (.dat .none), rt := Φ }) :
    FnOk P w K mg base CX0 (k + 1) f fd ps (spD K C) := by
  refine F.ok sc (fun vs H Q E ⟨ω, cs, Φ, h1, _, h3, _⟩ => h1.len.trans (len _ _ _ h3)) fun cdv A outer s H vs Q E hr ⟨ω, cs, Φ, h1, h2, h3, h4⟩ => ?_
  refine ⟨_, WB.pss _ _, body _ cdv A outer s H E rfl hr cs ω Φ h3 (L2.start Nm vs) H _ ⟨?_, h2⟩ ⟨fun ω' δ' σ' H' q s' k' => h4 ω' _ _ H' q s'.own k' Rp.non, fun ω' c v H' q s' k' o => h4 ω' c v H' q s' k' o, fun _ _ _ _ z => z.elim, fun _ _ _ _ z => z.elim⟩⟩
  unfold L2.start startE
  rw [h1.len]
  exact env_start _ h1
end
/-- a promise that a def keeps where nothing is being shown (repr is free to be asked) -/
structure FnG (P : Program) (w : World) (K : PySem.W.Frag) (mg : Str → Option Value) (base : Heap) (k : Nat) (f : Addr) (fd : FuncData) (ps : List Str) (sp : Sp) : Prop where
  len : ∀ vs H Q E, sp vs H Q E → vs.length = ps.length
  run : ∀ (A : Around) (outer : List PySem.Env) (s : Shared) (H : Hp) (args : Args) (us : List Value) (vs : List V) (Q : VK) (E : XK), A.guards = some [] → Room k A → Env0 P w K mg base A outer s H → BindsTo s fd args (ps.zip us) → Vals vs us → sp vs H Q E →
    codeAny (model P w) A (.call (.ref f) args) (CR CX0 outer P w H s Q E) s
theorem FnG.of {P : Program} {w : World} {K : PySem.W.Frag} {mg : Str → Option Value} {base : Heap} {k : Nat} {f : Addr} {fd : FuncData} {ps : List Str} {sp : Sp} (h : FnOk P w K mg base CX0 k f fd ps sp) : FnG P w K mg base k f fd ps sp :=
  ⟨h.len, fun A outer s H args us vs Q E _ => h.run A outer s H args us vs Q E⟩
theorem FnG.mono {P : Program} {w : World} {K : PySem.W.Frag} {mg : Str → Option Value} {base : Heap} {j k : Nat} {f : Addr} {fd : FuncData} {ps : List Str} {sp : Sp} (h : FnG P w K mg base j f fd ps sp) (l : j ≤ k) : FnG P w K mg base k f fd ps sp :=
  ⟨h.len, fun A outer s H args us vs Q E g r => h.run A outer s H args us vs Q E g (r.mono l)⟩
section
variable {P : Program} {w : World} {K : PySem.W.Frag} {mg : Str → Option Value} {base : Heap} {x qual : Str} {st : Stmt} {f : Addr} {fd : FuncData} {Nm ps : List Str} {k : Nat} {C : Con}
theorem okG (F : Fun K x qual st f fd) (sc : FnScope Nm ps (defScope st)) (len : ∀ cs ω Φ, C cs ω Φ → cs.length = ps.length)
    (body : ∀ (X : Cx) (cdv : Value) (A : Around) (outer : List PySem.Env) (s : Shared) (H : Hp) (E : XK), X = (cxOf CX0 P w K mg base Nm qual (defScope st) f cdv A outer s H E).nox → X.A.guards = some [] → Room k X.A → ∀ cs ω Φ, C cs ω Φ → B X ω (startE Nm cs) (defBody st) { nx := fun ω' _ => Φ ω' (.dat .none), rt := Φ }) :
    FnG P w K mg base (k + 1) f fd ps (spD K C) := by
  have ln : ∀ vs H Q E, spD K C vs H Q E → vs.length = ps.length := fun vs H Q E ⟨ω, cs, Φ, h1, _, h3, _⟩ => h1.len.trans (len _ _ _ h3)
  obtain ⟨oc, od, kV, doc, pm, an, cdv, ct, osl, rfl, lk, hcd⟩ := F.ex
  refine ⟨ln, fun A outer s H args us vs Q E hgd hroom en hbi hv hs => ?_⟩
  have hlen := ln _ _ _ _ hs
  have inK : K.In s.heap := en.mod.kin.keeps fun b o z => (en.bs b o z).1
  have nolim : s.heap.NoLimit := en.mod.nolimit.keeps fun b o z => (en.bs b o z).1
  have kinds : ∀ y ∈ ps.zip us, (defScope st).names.lookup y.1 = some .local ∨ ((defScope st).names.lookup y.1 = some .cell ∧ ((cellsFrom (s.heap.objs.size + 1) (defScope st).names []).lookup y.1).isSome = true) := by
    rintro ⟨n, v⟩ hy
    exact (sc.par n (List.of_mem_zip hy).1).imp id fun z => ⟨z, PySem.W.cellsFrom_some _ _ _ (.inl z)⟩
  refine codeAny_call_function hroom.depth (inK _ _ lk) rfl sc.co sc.gen rfl (PySem.W.codeRec_of inK hcd) (hbi _ _ _ _ ?_)
  refine wpAny_newFunctionEnv_cells sc.kind kinds ?_
  rintro env rfl s1 inC
  refine ⟨nolim.keeps inC.toInCall.keep, codeAny_func ?_⟩
  obtain ⟨ω, cs, Φ, h1, h2, h3, h4⟩ := hs
  have I := inv_start (CX := CX0) (P := P) (mg := mg) (base := base) (N := Nm) (E := E) sc hroom.hd en hlen hv inC
  have hb := body _ cdv A outer s H E rfl hgd (hroom.deeper _) cs ω Φ h3 (L2.start Nm vs) H { nx := fun _ H' => Q .non H', rt := Q }
    ⟨by unfold L2.start startE; rw [h1.len]; exact env_start _ h1, h2⟩ ⟨fun ω' δ' σ' H' q s' k' => h4 ω' _ _ H' q s'.own k' Rp.non, fun ω' c v H' q s' k' o => h4 ω' c v H' q s' k' o, fun _ _ _ _ z => z.elim, fun _ _ _ _ z => z.elim⟩
  refine wpAny_mono (hb [] s1 (I.wish _)) (fun fl s' z => ?_) fun e s' z => z.elim
  cases fl with
  | ret u =>
    obtain ⟨v, σ', H', J, rv, q⟩ := z
    exact ⟨v, H', J.os, J.bare, J.base, J.hok, rv, q⟩
  | next =>
    obtain ⟨σ', H', J, q⟩ := z
    exact ⟨.non, H', J.os, J.bare, J.base, J.hok, rfl, q⟩
  | brk =>
    obtain ⟨_, _, _, q⟩ := z
    exact q.elim
  | cont =>
    obtain ⟨_, _, _, q⟩ := z
    exact q.elim
end
section
variable {X : Cx} {ω : Ow} {δ : Env} {e a b c : Expr} {rest es : List Expr} {Φ : Ow → Cell → Prop} {pos p1 : Pos} {x : Str} {k : Nat} {f : Addr} {fd : FuncData} {ps : List Str} {C : Con}
/-- f(e, ..) of a def with a promise over data -/
theorem n_call (G : FnOk X.prog X.w X.K X.mg X.base CX0 k f fd ps (spD X.K C)) (hr : Room k X.A) (hm : X.mg x = some (.ref f)) (hk : PySem.W.keepIn X.K (.ref f) = true) (hb : Binds X.K fd ps []) (h : NA X ω δ (e :: es) fun ω1 cs => C cs ω1 Φ) (hg : Gl X x := by rfl)
    (hdb : (x == ("__debug__" : Str)) = false := by decide) (he : starEach (e :: es) X.env = (false, eval e X.env) :: starEach es X.env := by rfl) (hpl : (backTo pos (starEach es X.env)).any (·.1) = false := by rfl) : N X ω δ (.Call (.Name x p1) (e :: es) [] pos) Φ :=
  n_lift (pe_call G hr hg hm hk hb .nil (pass0 (X := X)) (WA.pa X _) hdb he hpl) fun σ H Q s q => h σ H _ s fun ω1 cs vs H1 f1 s1 k1 o1 => by
    refine ⟨ω1, cs, Φ, by rw [List.append_nil]; exact o1, s1.own, f1, fun ω2 c v H2 f2 s2 k2 o2 => q ω2 c v H2 f2 ⟨s1.env.mono k2, s2⟩ (k1.trans k2) o2⟩
/-- the same where the def wants that nothing is being shown -/
theorem n_callG (G : FnG X.prog X.w X.K X.mg X.base k f fd ps (spD X.K C)) (hgd : X.A.guards = some []) (hr : Room k X.A) (hm : X.mg x = some (.ref f)) (hk : PySem.W.keepIn X.K (.ref f) = true) (hb : Binds X.K fd ps []) (h : NA X ω δ (e :: es) fun ω1 cs => C cs ω1 Φ) (hg : Gl X x := by rfl)
    (hdb : (x == ("__debug__" : Str)) = false := by decide) (he : starEach (e :: es) X.env = (false, eval e X.env) :: starEach es X.env := by rfl) (hpl : (backTo pos (starEach es X.env)).any (·.1) = false := by rfl) : N X ω δ (.Call (.Name x p1) (e :: es) [] pos) Φ := by
  refine fun σ H Q s q pins s0 I => ?_
  refine wpAny_Call_Name_kw (ld_glob I hg hm ?_ hdb)
  refine PySem.W.callWith_K (h₀ := X.base) I.ok.mod.kin hk (thn (h σ H _ s (fun ω1 cs vs H1 f1 s1 k1 o1 => show (fun vs H1 => ∀ us pins s', Inv X pins σ H1 s' → Vals vs us → wpAny (model X.prog X.w) X.A (call (.ref f) us) (EP X pins σ Q) X.xe s') vs H1 from ?_) pos pins s0 I) ?_) he hpl
  · intro us pins' s' I' rv
    have hsp : spD X.K C vs H1 Q (fun _ _ _ => False) := ⟨ω1, cs, Φ, o1, s1.own, f1, fun ω2 c v H2 f2 s2 k2 o2 => q ω2 c v H2 f2 ⟨s1.env.mono k2, s2⟩ (k1.trans k2) o2⟩
    have hl : (us ++ []).length = ps.length := by rw [List.append_nil, ← rv.length]; exact G.len _ _ _ _ hsp
    have hbs := hb s' us I'.kIn hl
    rw [List.append_nil] at hbs
    refine wpAny_call (codeAny_mono (G.run X.A X.stack s' H1 ⟨us, []⟩ us vs Q _ hgd hr I'.env0 hbs rv hsp) fun r s'' hq => ?_)
    cases r with
    | error z => exact hq.elim
    | ok fl =>
      cases fl with
      | ret u => exact I'.after hq
      | next => exact hq.elim
      | brk => exact hq.elim
      | cont => exact hq.elim
  · rintro us s1 ⟨vs, H1, I1, rv, q1⟩
    exact ⟨I1.kIn, q1 us pins s1 I1 rv⟩
end
/-! ## repr of data -/
section
variable {X : Cx} {pins : List (Addr × Obj)} {σ : St} {H : Hp} {s : Shared}
theorem notMods (I : Inv X pins σ H s) (hm : ∃ m, X.base.Ns sysModules m) {a : Addr} {o : Obj} (ha : s.heap.get? a = some o) (hd : ∀ es ep, o.data ≠ .dict es ep) : a ≠ sysModules := by
  intro e
  subst e
  obtain ⟨m, om, es, ep, h1, h2, _⟩ := hm
  have := I.bk _ _ h1
  rw [ha] at this
  cases this
  exact hd _ _ h2
theorem key_reads {k : Key} {u : Value} (h : keyIs k u = true) (hp : Heap) : Reads hp u (keyD k) [] := by
  rcases keyIs_shape h with ⟨i, t, rfl, rfl⟩ | ⟨y, t, rfl, rfl⟩
  · exact .int i t
  · exact .str y t
theorem rp_reads (I : Inv X pins σ H s) (hm : ∃ m, X.base.Ns sysModules m) : ∀ n, (∀ d : PyData, sizeOf d < n → ∀ v u, Rp X.K H v d → RelV v u → ∃ as, Reads s.heap u d as ∧ sysModules ∉ as) ∧ (∀ ds : List PyData, sizeOf ds < n → ∀ vs us, RpA X.K H vs ds → Vals vs us → ∃ as, ReadsAll s.heap us ds as ∧ sysModules ∉ as) ∧
    (∀ ds : List (PyData × PyData), sizeOf ds < n → ∀ kvs vs es, RpK X.K H kvs ds → KV kvs vs → Pairs (mixKind X.prog X.w) es vs → ∃ bs, ReadsAll s.heap (es.map (·.key)) (ds.map (·.1)) [] ∧ ReadsAll s.heap (es.map (·.val)) (ds.map (·.2)) bs ∧ sysModules ∉ bs) := by
  intro n
  induction n with
  | zero => exact ⟨fun d h => by omega, fun d h => by omega, fun d h => by omega⟩
  | succ n ih =>
    refine ⟨fun d hz v u r rv => ?_, fun ds hz vs us r rv => ?_, fun ds hz kvs vs es r kv pr => ?_⟩
    · cases r with
      | non => cases rv; exact ⟨_, .none, by simp⟩
      | bl b => cases rv; exact ⟨_, .bool b, by simp⟩
      | int i => obtain ⟨t, rfl⟩ := rv; exact ⟨_, .int i t, by simp⟩
      | str y => obtain ⟨t, rfl⟩ := rv; exact ⟨_, .str y t, by simp⟩
      | @lst a xs ds hl hr =>
        cases rv
        obtain ⟨_, its, m, rv2, ho⟩ := I.hok _ _ hl
        obtain ⟨as, h1, h2⟩ := ih.2.1 ds (by simp at hz; omega) xs its hr rv2
        refine ⟨_, .list ho rfl rfl (by simpa using h1), ?_⟩
        intro q
        rcases List.mem_cons.mp q with q | q
        · exact notMods I hm ho (fun es ep z => by cases z) q.symm
        · exact h2 q
      | @tup a xs ds hl hr =>
        cases rv
        obtain ⟨its, rv2, ⟨o, ho, hc, m, hd⟩, _⟩ := I.tuple hl
        obtain ⟨as, h1, h2⟩ := ih.2.1 ds (by simp at hz; omega) xs its hr rv2
        exact ⟨_, .tuple ho hc hd (by simpa using h1), h2⟩
      | @dic a kvs ds hl hr =>
        cases rv
        obtain ⟨_, hne, vs, kv, o, es, ep, ho, hx, hd, _, pr, _⟩ := I.hok _ _ hl
        obtain ⟨bs, h1, h2, h3⟩ := ih.2.2 ds (by simp at hz; omega) kvs vs es.toList hr kv pr
        refine ⟨_, .dict ho hx.1 hd h1 h2, ?_⟩
        intro q
        rcases List.mem_append.mp q with q | q
        · rw [List.mem_singleton.mp q] at hne; simp at hne
        · exact h3 q
    · cases r with
      | nil => cases rv; exact ⟨_, .nil, by simp⟩
      | @cons v1 vs1 d1 ds1 h1 h2 =>
        cases rv with
        | cons r1 r2 =>
          obtain ⟨as, q1, q2⟩ := ih.1 d1 (by simp at hz; omega) _ _ h1 r1
          obtain ⟨bs, q3, q4⟩ := ih.2.1 ds1 (by simp at hz; omega) _ _ h2 r2
          exact ⟨_, .cons q1 q3, fun q => (List.mem_append.mp q).elim q2 q4⟩
    · cases r with
      | nil =>
        cases kv
        cases pr
        exact ⟨_, .nil, .nil, by simp⟩
      | @cons k1 v1 r1 d1 ds1 h1 h2 =>
        cases kv with
        | cons kv1 kv2 =>
          cases pr with
          | cons p1 p2 p3 =>
            obtain ⟨bs, q1, q2, q3⟩ := ih.2.2 ds1 (by simp at hz; omega) _ _ _ h2 kv2 p3
            obtain ⟨as, q4, q5⟩ := ih.1 d1 (by simp at hz; omega) _ _ h1 kv1.2
            refine ⟨as ++ bs, ?_, ?_, fun q => (List.mem_append.mp q).elim q5 q3⟩
            · have e1 : k1 = _ := kv1.1
              rw [← e1] at p1
              have hk := key_reads p1 s.heap
              exact ReadsAll.cons (as := []) (bs := []) hk q1
            · rw [List.map_cons, List.map_cons, p2]
              exact .cons q4 q2
theorem rp_read1 (I : Inv X pins σ H s) (hm : ∃ m, X.base.Ns sysModules m) {d : PyData} {v : V} {u : Value} (r : Rp X.K H v d) (rv : RelV v u) : ∃ as, Reads s.heap u d as ∧ sysModules ∉ as := (rp_reads I hm _).1 d (Nat.lt_succ_self _) v u r rv
end
end DL

namespace DL
open PySem PySem.Spec L2
/-! ## repr -/
structure Shows (d : PyData) : Prop where
  ok : d.showable = true
  dp : d.depth ≤ 80
  sz : d.shown.length ≤ sizeLine
theorem call_reprD {X : Cx} (hgd : X.A.guards = some []) (hsm : ∃ m, X.base.Ns sysModules m) (hu : X.A.units + 100 < cLine) : CallR X (.builtin "repr") (fun xs H Q => ∃ v d, xs = [v] ∧ Rp X.K H v d ∧ Shows d ∧ Q (.str d.shown) H) := by
  intro pins s σ H xs us Q I rvs h
  obtain ⟨v, d, rfl, r, sh, q⟩ := h
  obtain ⟨u, rfl, rv⟩ := vals1 rvs
  have via : ∀ a, u = .ref a → wpAny (model X.prog X.w) X.A (call (.builtin "repr") [u]) (EP X pins σ Q) X.xe s := fun a e => by
    obtain ⟨as, r1, r2⟩ := rp_read1 I hsm r rv
    subst e
    have := sh.dp
    exact repr_of_reads' r1 sh.ok (fun _ => r2) hgd (by omega) (fun _ _ z => z) (fun h' u tk hk => ⟨.str d.shown, H, I.kept hk, ⟨_, rfl⟩, q⟩) sh.sz
  cases r with
  | non => cases rv; exact PySem.P.repr_of_none ⟨.str (Str.ofString "None"), H, I.tok _, ⟨_, rfl⟩, q⟩
  | bl b =>
    cases rv
    refine PySem.P.repr_of_bool ⟨.str (if b = true then Str.ofString "True" else Str.ofString "False"), H, I.tok _, ⟨_, rfl⟩, ?_⟩
    cases b <;> exact q
  | int i =>
    obtain ⟨t, rfl⟩ := rv
    exact PySem.P.repr_of_int (by simpa [PyData.showable] using sh.ok) ⟨.str (Str.ofString (toString i)), H, I.tok _, ⟨_, rfl⟩, q⟩
  | str y =>
    obtain ⟨t, rfl⟩ := rv
    exact PySem.P.repr_of_str ⟨.str (reprText y), H, I.tok _, ⟨_, rfl⟩, q⟩ sh.sz
  | lst _ _ => cases rv; exact via _ rfl
  | tup _ _ => cases rv; exact via _ rfl
  | dic _ _ => cases rv; exact via _ rfl
section
variable {X : Cx} {ω : Ow} {δ : Env} {e a b c : Expr} {rest es : List Expr} {Φ : Ow → Cell → Prop} {pos p1 p2 p3 : Pos} {x : Str}
theorem n_repr (hgd : X.A.guards = some []) (hsm : ∃ m, X.base.Ns sysModules m) (hu : X.A.units + 100 < cLine) (hm : X.mg "repr" = none) (h : N X ω δ a fun ω1 c => ∃ d, c = .dat d ∧ Shows d ∧ Φ ω1 (.dat (.str d.shown))) (hg : Gl X "repr" := by rfl) (he : starEach [a] X.env = (false, eval a X.env) :: starEach [] X.env := by rfl) : N X ω δ (.Call (.Name "repr" p1) [a] [] pos) Φ :=
  n_callB (call_reprD hgd hsm hu) hm (na_cons (h.imp fun ω1 c ⟨d, e1, sh, f⟩ => na_nil fun vs σ H Q s o q => by
    subst e1
    obtain ⟨v, rfl, ov⟩ := cells1 o
    exact ⟨v, d, rfl, Rp.mono hid_same ov, sh, q ω1 _ _ H f s (Kp.refl _ _) (Rp.str _)⟩) he) hg (he := he)
/-! ## slices -/
def WO (X : Cx) : Option Expr → TO
  | none => tNoPart
  | some e => tPart (WE X e)
theorem WO.po (X : Cx) : ∀ o, PO X o (WO X o)
  | none => po_none
  | some e => po_some (WE.pe X e)
def NO (X : Cx) (ω : Ow) (δ : Env) (o : Option Expr) (Φ : Ow → Option Int → Prop) : Prop := match o with
  | none => Φ ω none
  | some e => N X ω δ e fun ω1 c => ∃ i, c = .dat (.int i) ∧ Φ ω1 (some i)
theorem NO.run {o : Option Expr} {Ψ : Ow → Option Int → Prop} (h : NO X ω δ o Ψ) : ∀ σ H Q, StOk X.K ω δ σ H → (∀ ω' i H', Ψ ω' i → StOk X.K ω' δ σ H' → Kp (dom ω) H (dom ω') H' → Q i H') → WO X o σ H Q := by
  cases o with
  | none => exact fun σ H Q s q => q ω none H h s (Kp.refl _ _)
  | some e =>
    intro σ H Q s q
    refine h σ H _ s fun ω1 c v H1 ⟨i, e1, f1⟩ s1 k1 o1 => ?_
    subst e1
    cases int_of o1
    exact ⟨i, rfl, q ω1 _ H1 f1 s1 k1⟩
def cutD {α : Type} (xs : List α) (lo hi : Option Int) : List α := (xs.drop (HT.sIx xs.length 0 lo)).take (HT.sIx xs.length xs.length hi - HT.sIx xs.length 0 lo)
theorem cut_rp {K : PySem.W.Frag} {H : Hp} {xs : List V} {ds : List PyData} (r : RpA K H xs ds) (lo hi : Option Int) : RpA K H (cutV xs lo hi) (cutD ds lo hi) := by
  unfold cutV cutD
  rw [r.len]
  exact (r.drop _).take _
theorem cut_ints (ns : List Int) (lo hi : Option Int) : cutV (ns.map V.int) lo hi = (cutD ns lo hi).map V.int := by
  unfold cutV cutD
  rw [List.length_map, List.map_take, List.map_drop]
theorem n_slL {lo hi : Option Expr} (h : N X ω δ a fun ω1 c => NO X ω1 δ lo fun ω2 i => NO X ω2 δ hi fun ω3 j => ∃ ds, c = .dat (.list ds) ∧ Φ ω3 (.dat (.list (cutD ds i j)))) : N X ω δ (.Subscript a (.Slice lo hi none p2) pos) Φ :=
  n_lift (pe_slice sl_list (WE.pe X a) (WO.po X lo) (WO.po X hi)) fun σ H Q s q => h σ H _ s fun ω1 c v H1 f1 s1 k1 o1 => f1.run σ H1 _ s1 fun ω2 i H2 f2 s2 k2 => f2.run σ H2 _ s2 fun ω3 j H3 ⟨ds, e1, f3⟩ s3 k3 => by
    subst e1
    cases (o1.mono (k2.trans k3)) with
    | lst hl r => exact ⟨_, _, rfl, SqL.of (hid_some hl).2, fun p hp => q ω3 _ _ _ f3 (s3.new hp) (k1.trans (k2.trans (k3.trans (kp_new s3.own hp)))) (new_lst s3.own hp (cut_rp r i j))⟩
theorem n_slS {lo hi : Option Expr} (h : N X ω δ a fun ω1 c => NO X ω1 δ lo fun ω2 i => NO X ω2 δ hi fun ω3 j => ∃ ns, c = .scr ns ∧ Φ ω3 (.dat (.list ((cutD ns i j).map .int)))) : N X ω δ (.Subscript a (.Slice lo hi none p2) pos) Φ :=
  n_lift (pe_slice sl_list (WE.pe X a) (WO.po X lo) (WO.po X hi)) fun σ H Q s q => h σ H _ s fun ω1 c v H1 f1 s1 k1 o1 => f1.run σ H1 _ s1 fun ω2 i H2 f2 s2 k2 => f2.run σ H2 _ s2 fun ω3 j H3 ⟨ns, e1, f3⟩ s3 k3 => by
    subst e1
    obtain ⟨l, rfl, hl⟩ := o1.mono (k2.trans k3)
    refine ⟨_, _, rfl, sql_hid hl, fun p hp => q ω3 _ _ _ f3 (s3.new hp) (k1.trans (k2.trans (k3.trans (kp_new s3.own hp)))) (new_lst s3.own hp ?_)⟩
    rw [cut_ints]
    exact RpA.ints _
theorem n_slT {lo hi : Option Expr} (h : N X ω δ a fun ω1 c => NO X ω1 δ lo fun ω2 i => NO X ω2 δ hi fun ω3 j => ∃ ds, c = .dat (.tuple ds) ∧ Φ ω3 (.dat (.tuple (cutD ds i j)))) : N X ω δ (.Subscript a (.Slice lo hi none p2) pos) Φ :=
  n_lift (pe_slice sl_tupA (WE.pe X a) (WO.po X lo) (WO.po X hi)) fun σ H Q s q => h σ H _ s fun ω1 c v H1 f1 s1 k1 o1 => f1.run σ H1 _ s1 fun ω2 i H2 f2 s2 k2 => f2.run σ H2 _ s2 fun ω3 j H3 ⟨ds, e1, f3⟩ s3 k3 => by
    subst e1
    have o3 := o1.mono (k2.trans k3)
    cases o3 with
    | tup hl r =>
      refine ⟨_, _, rfl, sqt_hid hl, fun w => ?_, fun _ p hp => q ω3 _ _ _ f3 (s3.new hp) (k1.trans (k2.trans (k3.trans (kp_new s3.own hp)))) (new_tup s3.own hp (cut_rp r i j))⟩
      refine q ω3 _ _ _ f3 s3 (k1.trans (k2.trans k3)) ?_
      have e : cutD ds i j = ds := by
        unfold cutD
        rw [← r.len, w.1, w.2, List.drop_zero, Nat.sub_zero, r.len, List.take_length]
      rw [e]
      exact .tup hl r
/-! ## joined, repeated -/
theorem n_catL (h : N X ω δ a fun ω1 c1 => N X ω1 δ b fun ω2 c2 => ∃ d1 d2, c1 = .dat (.list d1) ∧ c2 = .dat (.list d2) ∧ d1.length + d2.length ≤ 100000 ∧ Φ ω2 (.dat (.list (d1 ++ d2)))) : N X ω δ (.BinOp a .Add b pos) Φ :=
  n_bop op_cat (h.imp fun _ _ h1 => h1.imp fun ω2 _ ⟨d1, d2, e1, e2, z, f⟩ x y σ H Q s o1 o2 q => by
    subst e1; subst e2
    cases o1 with
    | lst h1 r1 =>
      cases o2 with
      | lst h2 r2 =>
        exact ⟨_, _, _, _, rfl, rfl, (hid_some h1).2, (hid_some h2).2, by rw [r1.len, r2.len]; exact Nat.le_trans z (by decide), fun p hp => q ω2 _ _ _ f (s.new hp) (kp_new s.own hp) (new_lst s.own hp (r1.append r2))⟩)
theorem n_catT (h : N X ω δ a fun ω1 c1 => N X ω1 δ b fun ω2 c2 => ∃ d1 d2, c1 = .dat (.tuple d1) ∧ c2 = .dat (.tuple d2) ∧ d1.length + d2.length ≤ 100000 ∧ Φ ω2 (.dat (.tuple (d1 ++ d2)))) : N X ω δ (.BinOp a .Add b pos) Φ :=
  n_bop op_catA (h.imp fun _ _ h1 => h1.imp fun ω2 _ ⟨d1, d2, e1, e2, z, f⟩ x y σ H Q s o1 o2 q => by
    subst e1; subst e2
    cases o1 with
    | tup h1 r1 =>
      cases o2 with
      | tup h2 r2 =>
        refine ⟨_, _, _, _, rfl, rfl, sqt_hid h1, sqt_hid h2, by rw [r1.len, r2.len]; exact Nat.le_trans z (by decide), fun w => ?_, fun _ w => ?_, fun _ _ p hp => q ω2 _ _ _ f (s.new hp) (kp_new s.own hp) (new_tup s.own hp (r1.append r2))⟩
        · subst w
          cases r1
          exact q ω2 _ _ H f s (Kp.refl _ _) (.tup h2 r2)
        · subst w
          cases r2
          rw [List.append_nil] at f
          exact q ω2 _ _ H f s (Kp.refl _ _) (.tup h1 r1))
theorem rep_rp {K : PySem.W.Frag} {H : Hp} {xs : List V} {ds : List PyData} (r : RpA K H xs ds) : ∀ n, RpA K H (List.replicate n xs).flatten (List.replicate n ds).flatten
  | 0 => .nil
  | n + 1 => by rw [List.replicate_succ, List.replicate_succ, List.flatten_cons, List.flatten_cons]; exact r.append (rep_rp r n)
theorem n_repL (h : N X ω δ a fun ω1 c1 => N X ω1 δ b fun ω2 c2 => ∃ ds k, c1 = .dat (.list ds) ∧ c2 = .dat (.int k) ∧ -100000 ≤ k ∧ k ≤ 100000 ∧ ds.length * k.toNat ≤ 100000 ∧ Φ ω2 (.dat (.list (List.replicate k.toNat ds).flatten))) : N X ω δ (.BinOp a .Mult b pos) Φ :=
  n_bop op_rep (h.imp fun _ _ h1 => h1.imp fun ω2 _ ⟨ds, k, e1, e2, z1, z2, z3, f⟩ x y σ H Q s o1 o2 q => by
    subst e1; subst e2
    cases int_of o2
    cases o1 with
    | lst h1 r1 => exact ⟨_, _, _, rfl, rfl, (hid_some h1).2, by omega, by omega, by rw [r1.len]; exact Nat.le_trans z3 (by decide), fun p hp => q ω2 _ _ _ f (s.new hp) (kp_new s.own hp) (new_lst s.own hp (rep_rp r1 _))⟩)
theorem n_addS (h : N X ω δ a fun ω1 c1 => N X ω1 δ b fun ω2 c2 => ∃ y z, c1 = .dat (.str y) ∧ c2 = .dat (.str z) ∧ y.length + z.length ≤ sizeLine ∧ Φ ω2 (.dat (.str (y ++ z)))) : N X ω δ (.BinOp a .Add b pos) Φ :=
  n_bop op_add_str (h.imp fun _ _ h1 => h1.imp fun ω2 _ ⟨y, z, e1, e2, zz, f⟩ v w σ H Q s o1 o2 q => by
    subst e1; subst e2
    cases str_of o1; cases str_of o2
    exact ⟨y, z, rfl, rfl, zz, q ω2 _ _ H f s (Kp.refl _ _) (Rp.str _)⟩)
/-- an owned list, read at a place -/
theorem n_ixO (hp : PlainIx b) (i n : Nat) {p : Addr} (hd : δ[i]? = some (some (.raw (.ref p)))) (h : N X ω δ b fun ω2 c2 => ∃ ds k d, ω2[n]? = some (p, lstP ds) ∧ c2 = .dat (.int k) ∧ atI ds k = some d ∧ Φ ω2 (.dat d)) (hN : X.N[i]? = some x := by rfl)
    (hv : Vis X.env.scope x := by first | exact Or.inl rfl | exact Or.inr (Or.inl rfl) | exact Or.inr (Or.inr rfl)) (hg : (x == ("__debug__" : Str)) = false := by decide) (hcd : (x == ("__classdict__" : Str)) = false := by decide) : N X ω δ (.Subscript (.Name x p1) b pos) Φ :=
  n_lift (pe_ix ix_list (pe_var hN hv hg hcd) (WE.pe X b) hp) fun σ H Q s q => by
    obtain ⟨v, h1, h2⟩ := s.get hd
    cases h2
    refine ⟨_, h1, h σ H _ s fun ω2 c v H2 ⟨ds, k, d, hw, e1, hi, f⟩ s2 k2 o2 => ?_⟩
    subst e1
    cases int_of o2
    obtain ⟨u, g1, vs, rfl, g2⟩ := s2.own.at_ p _ (List.mem_of_getElem? hw)
    obtain ⟨v2, g3, g4⟩ := atI_rp g2 hi
    exact ⟨p, vs, k, v2, rfl, rfl, SqL.of g1, g3, q ω2 _ _ H2 f s2 k2 g4⟩
theorem n_lenO (i n : Nat) {p : Addr} {ds : List PyData} (hm : X.mg "len" = none) (hd : δ[i]? = some (some (.raw (.ref p)))) (hw : ω[n]? = some (p, lstP ds)) (h : Φ ω (.dat (.int (ds.length : Int)))) (hN : X.N[i]? = some x := by rfl)
    (hv : Vis X.env.scope x := by first | exact Or.inl rfl | exact Or.inr (Or.inl rfl) | exact Or.inr (Or.inr rfl)) (hg : (x == ("__debug__" : Str)) = false := by decide) (hcd : (x == ("__classdict__" : Str)) = false := by decide)
    (hgl : Gl X "len" := by rfl) : N X ω δ (.Call (.Name "len" p1) [.Name x p2] [] pos) Φ :=
  n_lift (pe_callB call_len_seq hgl hm (by decide +kernel) (pa_cons (pe_var hN hv hg hcd) pa_nil)) fun σ H Q s q => by
    obtain ⟨v, h1, h2⟩ := s.get hd
    cases h2
    obtain ⟨u, g1, vs, rfl, g2⟩ := s.own.at_ p _ (List.mem_of_getElem? hw)
    exact ⟨_, h1, _, _, rfl, .inl (SqL.of g1), by rw [g2.len]; exact q ω _ _ H h s (Kp.refl _ _) (Rp.int _)⟩
end
section
variable {X : Cx} {ω : Ow} {δ : Env} {e a b c : Expr} {st : Stmt} {rest body orelse : List Stmt} {E : En} {pos p1 p2 p3 : Pos} {x : Str}
theorem atI_ix {α : Type} {ds : List α} {k : Int} {d : α} (h : atI ds k = some d) : ∃ j, ixN ds.length k = some j ∧ ds[j]? = some d := by
  unfold atI at h
  cases q : ixN ds.length k with
  | none => rw [q] at h; cases h
  | some j => rw [q] at h; exact ⟨j, rfl, h⟩

end
end DL

namespace DL
open PySem PySem.Spec L2
section
variable {X : Cx} {ω : Ow} {δ : Env} {e a b c : Expr} {st : Stmt} {rest body orelse : List Stmt} {E : En} {pos p1 p2 p3 : Pos} {x : Str}
/-- o[k] = e, o an owned list -/
theorem s_setO (i n : Nat) {p : Addr} (hd : δ[i]? = some (some (.raw (.ref p)))) (h : N X ω δ e fun ω1 c1 => N X ω1 δ b fun ω2 c2 => ∃ ds d k j, ω2[n]? = some (p, lstP ds) ∧ c1 = .dat d ∧ c2 = .dat (.int k) ∧ ixN ds.length k = some j ∧ E.nx (ω2.set n (p, lstP (ds.set j d))) δ) (hN : X.N[i]? = some x := by rfl)
    (hs : swapsWithSole [.Subscript (.Name x p1) b p2] e pos.line X.env = pure false := by rfl) (hw : swappedStores [.Subscript (.Name x p1) b p2] e X.env = pure none := by rfl) (h1 : (assignEach [.Subscript (.Name x p1) b p2] X.env).map (·.2) = [assign (.Subscript (.Name x p1) b p2) X.env] := by rfl)
    (ha : ∀ v, assign (.Subscript (.Name x p1) b p2) X.env v = (do
      let ov ← holding [v] (eval (.Name x p1) X.env)
      let iv ← holding [v, ov] (eval b X.env)
      standAt p2
      holding [v, ov, iv] (setItem ov iv v)
      release [v, ov, iv] []) := by intro _; rfl)
    (hv : Vis X.env.scope x := by first | exact Or.inl rfl | exact Or.inr (Or.inl rfl) | exact Or.inr (Or.inr rfl)) (hg : (x == ("__debug__" : Str)) = false := by decide) (hcd : (x == ("__classdict__" : Str)) = false := by decide) : S X ω δ (.Assign [.Subscript (.Name x p1) b p2] e pos) E := fun σ H D s f =>
  WS.of (ps_asg (WE.pe X e) (pg_sub (pe_var hN hv hg hcd) (WE.pe X b) set_list ha) hs hw h1) (h σ H _ s fun ω1 c1 v1 H1 f1 s1 k1 o1 => by
    obtain ⟨v, g1, g2⟩ := s1.get hd
    cases g2
    refine ⟨_, g1, f1 σ H1 _ s1 fun ω2 c2 v2 H2 ⟨ds, d, k, j, hw2, e1, e2, hj, q⟩ s2 k2 o2 => ?_⟩
    subst e1; subst e2
    cases int_of o2
    obtain ⟨u, m1, vs, rfl, m2⟩ := s2.own.at_ p _ (List.mem_of_getElem? hw2)
    have m3 : Rp X.K (hid (dom ω2) H2) v1 d := o1.mono (c := .dat d) k2
    refine ⟨p, vs, k, j, rfl, rfl, m1, by rw [m2.len]; exact hj, ?_⟩
    exact f.nx _ _ _ _ q (s2.put hw2 ⟨_, rfl, m2.set m3 j⟩) (by rw [dom_set hw2]; exact (k1.trans k2).trans (kp_upd (mem_dom hw2))))
/-- o[k], by values, k from 0 on -/
def getN (K : PySem.W.Frag) : V → V → Hp → VK → Prop := fun o i H Q => ∃ p xs k v, o = .ref p ∧ i = .int k ∧ SqL K H p xs ∧ 0 ≤ k ∧ k < 2 ^ 63 ∧ xs[k.toNat]? = some v ∧ Q v H
theorem get_lst : PGet X (getN X.K) := by
  rintro pins s σ H o i ov iv Q I ro ri ⟨p, xs, k, v, rfl, rfl, hl, h0, h1, hv, q⟩
  cases ro
  obtain ⟨t, rfl⟩ := ri
  obtain ⟨its, r, pl, _⟩ := I.list hl
  obtain ⟨u, hu, ru⟩ := r.get hv
  exact wpAny_getItem_list pl.isList h0 h1 (by simpa using hu) ⟨v, H, I, ru, q⟩
/-- o[k] += e, ints, o an owned list -/
theorem s_augO (i n : Nat) {p : Addr} (hd : δ[i]? = some (some (.raw (.ref p)))) (h : N X ω δ b fun ω1 c1 => ∃ ds k m, ω1[n]? = some (p, lstP ds) ∧ c1 = .dat (.int k) ∧ 0 ≤ k ∧ k < 1000000 ∧ ds[k.toNat]? = some (.int m) ∧
      N X ω1 δ e fun ω2 c2 => ∃ l, ω2[n]? = some (p, lstP ds) ∧ c2 = .dat (.int l) ∧ E.nx (ω2.set n (p, lstP (ds.set k.toNat (.int (m + l))))) δ) (hN : X.N[i]? = some x := by rfl)
    (ha : ∀ ov iv new, augStore b ov iv new = (do holding [new, ov, iv] (setItem ov iv new); release [new, ov, iv] []; pure .next) := by intros; rfl)
    (hv : Vis X.env.scope x := by first | exact Or.inl rfl | exact Or.inr (Or.inl rfl) | exact Or.inr (Or.inr rfl)) (hg : (x == ("__debug__" : Str)) = false := by decide) (hcd : (x == ("__classdict__" : Str)) = false := by decide) : S X ω δ (.AugAssign (.Subscript (.Name x p1) b p2) .Add e pos) E := fun σ H D s f =>
  WS.of (ps_augS (pe_var hN hv hg hcd) (WE.pe X b) get_lst (WE.pe X e) ip_add set_list ha) (by
    obtain ⟨v, g1, g2⟩ := s.get hd
    cases g2
    refine ⟨_, g1, h σ H _ s fun ω1 c1 v1 H1 ⟨ds, k, m, hw, e1, h0, h1, hk, f1⟩ s1 k1 o1 => ?_⟩
    subst e1
    cases int_of o1
    obtain ⟨u, m1, vs, rfl, m2⟩ := s1.own.at_ p _ (List.mem_of_getElem? hw)
    obtain ⟨w, m3, m4⟩ := m2.get hk
    cases m4
    refine ⟨p, vs, k, _, rfl, rfl, SqL.of m1, h0, by omega, m3, f1 σ H1 _ s1 fun ω2 c2 v2 H2 ⟨l, hw2, e2, q⟩ s2 k2 o2 => ?_⟩
    subst e2
    cases int_of o2
    obtain ⟨u2, n1, vs2, rfl, n2⟩ := s2.own.at_ p _ (List.mem_of_getElem? hw2)
    have hlt : k.toNat < vs2.length := by rw [n2.len]; exact (List.getElem?_eq_some_iff.mp hk).1
    refine ⟨m, l, rfl, rfl, p, vs2, k, k.toNat, rfl, rfl, n1, ?_, ?_⟩
    · unfold ixN
      rw [if_pos h0, if_pos (by omega)]
    · exact f.nx _ _ _ _ q (s2.put hw2 ⟨_, rfl, n2.set (Rp.int _) k.toNat⟩) (by rw [dom_set hw2]; exact (k1.trans k2).trans (kp_upd (mem_dom hw2))))
/-- o.append(e), o an owned list -/
theorem s_appendO (i n : Nat) {p : Addr} (hd : δ[i]? = some (some (.raw (.ref p)))) (hw0 : ∃ ds, ω[n]? = some (p, lstP ds)) (h : N X ω δ e fun ω1 c1 => ∃ ds d, ω1[n]? = some (p, lstP ds) ∧ c1 = .dat d ∧ ds.length < 100000 ∧ E.nx (ω1.set n (p, lstP (ds ++ [d]))) δ) (hN : X.N[i]? = some x := by rfl)
    (hs : swapsWith (.Call (.Attribute (.Name x p1) "append" p2) [e] [] p3) none pos.line X.env = pure false := by rfl)
    (hbase : attributeBase (.Name x p1) "append" X.env (eval (.Name x p1) X.env) = eval (.Name x p1) X.env := by rfl)
    (hfew : ((backTo p3 (starEach [e] X.env)).all (fun x => !x.1) && (backToKw p3 (keywordEach [] X.env)).all (fun x => x.1.isSome)
      && decide ([e].length + ([] : List Keyword).length + (if ([] : List Keyword).isEmpty then 0 else 1) < 30)) = true := by rfl)
    (hline : (p2.endLine == p3.line) = true := by rfl) (hst : starEach [e] X.env = (false, eval e X.env) :: starEach [] X.env := by rfl) (hplain : (backTo p3 (starEach [] X.env)).any (·.1) = false := by rfl)
    (hv : Vis X.env.scope x := by first | exact Or.inl rfl | exact Or.inr (Or.inl rfl) | exact Or.inr (Or.inr rfl)) (hg : (x == ("__debug__" : Str)) = false := by decide) (hcd : (x == ("__classdict__" : Str)) = false := by decide) :
    S X ω δ (.Expr (.Call (.Attribute (.Name x p1) "append" p2) [e] [] p3) pos) E := fun σ H D s f =>
  WS.of (ps_expr (pe_bm PySem.F.plainAttrs_list PySem.F.slot_list_append PySem.F.type_list_append mt_append (pe_var hN hv hg hcd) (pa_cons (WE.pe X e) pa_nil hst) hbase hfew hline hst hplain) hs) (by
    obtain ⟨v, g1, g2⟩ := s.get hd
    cases g2
    obtain ⟨ds0, hw0⟩ := hw0
    obtain ⟨u0, a1, vs0, rfl, a2⟩ := s.own.at_ p _ (List.mem_of_getElem? hw0)
    refine ⟨_, g1, .inl ⟨rfl, _, SqL.of a1⟩, h σ H _ s fun ω1 c1 v1 H1 ⟨ds, d, hw, e1, hz, q⟩ s1 k1 o1 => ?_⟩
    subst e1
    obtain ⟨u, m1, vs, rfl, m2⟩ := s1.own.at_ p _ (List.mem_of_getElem? hw)
    refine ⟨p, vs, _, rfl, rfl, m1, by rw [m2.len]; exact Nat.lt_of_lt_of_le hz (by decide), ?_⟩
    exact f.nx _ _ _ _ q (s1.put hw ⟨_, rfl, m2.append (.cons o1 .nil)⟩) (by rw [dom_set hw]; exact k1.trans (kp_upd (mem_dom hw))))
/-! ## loops -/
/-- for x in a list (or tuple) that is a datum; x in slot j -/
theorem s_forD (j : Nat) {iter : Expr} (hp : PassesOwn (model X.prog X.w) X.A X.env X.xe) (hc : X.calm = true) (hn : X.N.Nodup)
    (h : N X ω δ iter fun ω1 c => ∃ ds, c = .dat (.list ds) ∧ ∃ I : Nat → Ow → Env → Prop, I 0 ω1 δ ∧
      (∀ i ω2 δ2 d, ds[i]? = some d → I i ω2 δ2 → B X ω2 (δ2.set j (some (.dat d))) body { nx := I (i + 1), ct := I (i + 1), bk := E.nx, rt := E.rt }) ∧ ∀ ω2 δ2, I ds.length ω2 δ2 → E.nx ω2 δ2)
    (hN : X.N[j]? = some x := by rfl) (hx : Loc X.env.scope x := by first | exact Or.inl rfl | exact Or.inr rfl) (hf : X.fn x = true ∨ X.env.scope.names.lookup x = some .local := by first | exact .inl rfl | exact .inr rfl | assumption)
    (hs : ∀ x, foldedSetIterable iter X.env x = pure x := by intro _; rfl) : S X ω δ (.For (.Name x p1) iter body [] pos) E := fun σ H D s f =>
  WS.of (ps_for hp hc (pi_list (WE.pe X iter)) (pg_name hn hN hx hf) (WB.pss X body) hs) (h σ H _ s fun ω1 c v H1 ⟨ds, e1, I, i0, it, ie⟩ s1 k1 o1 => by
    subst e1
    cases o1 with
    | @lst a xs _ hl hr =>
      refine ⟨a, rfl, ⟨xs, SqL.of (hid_some hl).2⟩, for_list (K := X.K) (a := a) (xs := xs) (fun i σ' H' => ∃ ω2 δ2, I i ω2 δ2 ∧ StOk X.K ω2 δ2 σ' H' ∧ Kp (dom ω1) H1 (dom ω2) H') ⟨ω1, δ, i0, s1, Kp.refl _ _⟩ ?_ ?_ ?_⟩
      · rintro i σ' H' _ ⟨ω2, δ2, _, _, k2⟩
        exact SqL.of (hid_some (k2 _ _ hl)).2
      · rintro i y σ' H' hy ⟨ω2, δ2, hi, s2, k2⟩
        obtain ⟨d, hd, rd⟩ := hr.get' hy
        refine it i ω2 δ2 d hd hi _ _ _ (s2.store j (c := .dat d) (rd.mono k2)) ⟨fun ω3 δ3 σ3 H3 q s3 k3 => ⟨ω3, δ3, q, s3, k2.trans k3⟩, fun ω3 c v H3 q s3 k3 o3 => f.rt ω3 c v H3 q s3 (k1.trans (k2.trans k3)) o3, fun ω3 δ3 σ3 H3 q s3 k3 => f.nx ω3 δ3 σ3 H3 q s3 (k1.trans (k2.trans k3)), fun ω3 δ3 σ3 H3 q s3 k3 => ⟨ω3, δ3, q, s3, k2.trans k3⟩⟩
      · rintro σ' H' ⟨ω2, δ2, hi, s2, k2⟩
        rw [hr.len] at hi
        exact f.nx ω2 δ2 σ' H' (ie ω2 δ2 hi) s2 (k1.trans k2))
theorem s_forT (j : Nat) {iter : Expr} (hp : PassesOwn (model X.prog X.w) X.A X.env X.xe) (hc : X.calm = true) (hn : X.N.Nodup)
    (h : N X ω δ iter fun ω1 c => ∃ ds, c = .dat (.tuple ds) ∧ ∃ I : Nat → Ow → Env → Prop, I 0 ω1 δ ∧
      (∀ i ω2 δ2 d, ds[i]? = some d → I i ω2 δ2 → B X ω2 (δ2.set j (some (.dat d))) body { nx := I (i + 1), ct := I (i + 1), bk := E.nx, rt := E.rt }) ∧ ∀ ω2 δ2, I ds.length ω2 δ2 → E.nx ω2 δ2)
    (hN : X.N[j]? = some x := by rfl) (hx : Loc X.env.scope x := by first | exact Or.inl rfl | exact Or.inr rfl) (hf : X.fn x = true ∨ X.env.scope.names.lookup x = some .local := by first | exact .inl rfl | exact .inr rfl | assumption)
    (hs : ∀ x, foldedSetIterable iter X.env x = pure x := by intro _; rfl) : S X ω δ (.For (.Name x p1) iter body [] pos) E := fun σ H D s f =>
  WS.of (ps_for hp hc (pi_tup (WE.pe X iter)) (pg_name hn hN hx hf) (WB.pss X body) hs) (h σ H _ s fun ω1 c v H1 ⟨ds, e1, I, i0, it, ie⟩ s1 k1 o1 => by
    subst e1
    cases o1 with
    | @tup a xs _ hl hr =>
      refine ⟨a, rfl, ⟨xs, sqt_hid hl⟩, for_tup (K := X.K) (a := a) (xs := xs) (fun i σ' H' => ∃ ω2 δ2, I i ω2 δ2 ∧ StOk X.K ω2 δ2 σ' H' ∧ Kp (dom ω1) H1 (dom ω2) H') ⟨ω1, δ, i0, s1, Kp.refl _ _⟩ ?_ ?_ ?_⟩
      · rintro i σ' H' _ ⟨ω2, δ2, _, _, k2⟩
        exact sqt_hid (seqT k2 hl)
      · rintro i y σ' H' hy ⟨ω2, δ2, hi, s2, k2⟩
        obtain ⟨d, hd, rd⟩ := hr.get' hy
        refine it i ω2 δ2 d hd hi _ _ _ (s2.store j (c := .dat d) (rd.mono k2)) ⟨fun ω3 δ3 σ3 H3 q s3 k3 => ⟨ω3, δ3, q, s3, k2.trans k3⟩, fun ω3 c v H3 q s3 k3 o3 => f.rt ω3 c v H3 q s3 (k1.trans (k2.trans k3)) o3, fun ω3 δ3 σ3 H3 q s3 k3 => f.nx ω3 δ3 σ3 H3 q s3 (k1.trans (k2.trans k3)), fun ω3 δ3 σ3 H3 q s3 k3 => ⟨ω3, δ3, q, s3, k2.trans k3⟩⟩
      · rintro σ' H' ⟨ω2, δ2, hi, s2, k2⟩
        rw [hr.len] at hi
        exact f.nx ω2 δ2 σ' H' (ie ω2 δ2 hi) s2 (k1.trans k2))
/-- for x in range(n) -/
theorem s_forR (j : Nat) (hp : PassesOwn (model X.prog X.w) X.A X.env X.xe) (hc : X.calm = true) (hn : X.N.Nodup) (hm : X.mg "range" = none)
    (h : N X ω δ a fun ω1 c => ∃ n, c = .dat (.int n) ∧ -1000000 ≤ n ∧ n ≤ 1000000 ∧ ∃ I : Nat → Ow → Env → Prop, I 0 ω1 δ ∧
      (∀ i ω2 δ2, i < n.toNat → I i ω2 δ2 → B X ω2 (δ2.set j (some (.dat (.int (i : Int))))) body { nx := I (i + 1), ct := I (i + 1), bk := E.nx, rt := E.rt }) ∧ ∀ ω2 δ2, I n.toNat ω2 δ2 → E.nx ω2 δ2)
    (hg : Gl X "range" := by rfl) (ha : starEach [a] X.env = [(false, eval a X.env)] := by rfl) (hN : X.N[j]? = some x := by rfl) (hx : Loc X.env.scope x := by first | exact Or.inl rfl | exact Or.inr rfl) (hf : X.fn x = true ∨ X.env.scope.names.lookup x = some .local := by first | exact .inl rfl | exact .inr rfl | assumption)
    (hs : ∀ x, foldedSetIterable (.Call (.Name "range" p2) [a] [] p3) X.env x = pure x := by intro _; rfl) : S X ω δ (.For (.Name x p1) (.Call (.Name "range" p2) [a] [] p3) body [] pos) E := fun σ H D s f =>
  WS.of (ps_for hp hc (pi_range1 hg hm (pa_cons (WE.pe X a) pa_nil ha) ha) (pg_name hn hN hx hf) (WB.pss X body) hs) (h σ H _ s fun ω1 c v H1 ⟨n, e1, z1, z2, I, i0, it, ie⟩ s1 k1 o1 => by
    subst e1
    cases int_of o1
    refine ⟨n, rfl, by omega, by omega, for_range (lo := 0) (n := n.toNat) (fun i σ' H' => ∃ ω2 δ2, I i ω2 δ2 ∧ StOk X.K ω2 δ2 σ' H' ∧ Kp (dom ω1) H1 (dom ω2) H') ⟨ω1, δ, i0, s1, Kp.refl _ _⟩ ?_ ?_⟩
    · rintro i σ' H' hi ⟨ω2, δ2, hI, s2, k2⟩
      rw [Int.zero_add]
      refine it i ω2 δ2 hi hI _ _ _ (s2.store j (c := .dat (.int i)) (Rp.int _)) ⟨fun ω3 δ3 σ3 H3 q s3 k3 => ⟨ω3, δ3, q, s3, k2.trans k3⟩, fun ω3 c v H3 q s3 k3 o3 => f.rt ω3 c v H3 q s3 (k1.trans (k2.trans k3)) o3, fun ω3 δ3 σ3 H3 q s3 k3 => f.nx ω3 δ3 σ3 H3 q s3 (k1.trans (k2.trans k3)), fun ω3 δ3 σ3 H3 q s3 k3 => ⟨ω3, δ3, q, s3, k2.trans k3⟩⟩
    · rintro σ' H' ⟨ω2, δ2, hi, s2, k2⟩
      exact f.nx ω2 δ2 σ' H' (ie ω2 δ2 hi) s2 (k1.trans k2))
end
end DL

namespace DL
open PySem PySem.Spec L2
/-! ## comprehensions -/
/-- the frame in which a comprehension's block runs -/
abbrev BlkF (X : Cx) (scope : Scope) (Γ : Cx → Prop) : Prop := ∀ (s : Shared) (H : Hp) (C : Addr) (cl : List (Str × Addr)) (fp : List Addr), Γ (X.blk s H scope (compEnvC scope cl C X.env) fp)
theorem EnvOk.wipe {K : PySem.W.Frag} {O : List Addr} {H : Hp} : ∀ {σ : St} {δ : Env} (i : Nat), EnvOk K O H σ δ → EnvOk K O H (σ.set i none) (δ.set i none)
  | [], [], _, _ => trivial
  | _ :: _, _ :: _, 0, ⟨_, r⟩ => ⟨fun x q => (nomatch q), r⟩
  | _ :: _, _ :: _, i + 1, ⟨h, r⟩ => ⟨h, EnvOk.wipe i r⟩
  | [], _ :: _, _, h => h.elim
  | _ :: _, [], _, h => h.elim
theorem set_wipe {σ : St} {j : Nat} {v : Option V} : ((σ.set j none).set j v).set j none = σ.set j none := by
  rw [List.set_set, List.set_set]
/-- what a turn of the block has to reach: behind the accumulated list D stands what is owned outside -/
def Acc (D : Addr) (J : Ow → List PyData → Prop) (ω : Ow) (acc : List PyData) : Prop := ∃ ω', ω = (D, lstP acc) :: ω' ∧ J ω' acc
section
variable {X : Cx} {ω : Ow} {δ : Env} {e a b c elt iter : Expr} {Φ : Ow → Cell → Prop} {pos p1 p2 p3 : Pos} {x : Str} {scope : Scope}
theorem lc_done {Q : VK} {ω1 : Ow} {σ : St} {H1 H' : Hp} {D : Addr} {acc : List PyData} {ω2 : Ow} (s : StOk X.K ((D, lstP acc) :: ω2) δ σ H') (q : CellOk X.K (dom ω2) H' (.ref D) (.dat (.list acc)) → Q (.ref D) H') : Q (.ref D) H' := q (own_lst s.own)
/-- [elt for x in range(n)] -/
theorem t_lcR (j : Nat)
    (h : N X ω δ a fun ω1 c => ∃ n, c = .dat (.int n) ∧ -1000000 ≤ n ∧ n ≤ 1000000 ∧ ∃ J : Nat → Ow → List PyData → Prop, J 0 ω1 [] ∧
      (∀ i ω2 acc D, i < n.toNat → J i ω2 acc → BlkF X scope fun Y => N Y ((D, lstP acc) :: ω2) ((δ.set j none).set j (some (.dat (.int (i : Int))))) elt fun ω3 c => ∃ d, c = .dat d ∧ acc.length < 100000 ∧ ∃ ω4, ω3 = (D, lstP acc) :: ω4 ∧ J (i + 1) ω4 (acc ++ [d])) ∧
      ∀ ω2 acc, J n.toNat ω2 acc → Φ ω2 (.dat (.list acc))) {σ : St} {H : Hp} {Q : VK} (s : StOk X.K ω δ σ H) (q : ∀ ω' c v H', Φ ω' c → StOk X.K ω' δ σ H' → Kp (dom ω) H (dom ω') H' → CellOk X.K (dom ω') H' v c → Q v H') :
    tLc (iRng1 (tCons (WE X a) tNil)) (gName j) tYes (fun σ H Q => BlkF X scope fun Y => WE Y elt σ H Q) [j] σ H Q :=
  h σ H _ s fun ω1 c v H1 ⟨n, e1, z1, z2, J, j0, jt, je⟩ s1 k1 o1 => by
    subst e1
    cases int_of o1
    refine ⟨n, rfl, by omega, by omega, fun D hD => ?_⟩
    have hD0 : (lstP []).ok X.K (hid (dom ω1) H1) (.lst []) := ⟨[], rfl, .nil⟩
    refine lc_range (lo := 0) (n := n.toNat) (g := gName j) (tt := tYes) (te := fun σ H Q => BlkF X scope fun Y => WE Y elt σ H Q) (vs := [j]) (σ := σ) (H1 := H1) (D := D) (Qd := fun H => Q (.ref D) H) (fun i H' => ∃ ω2 acc, J i ω2 acc ∧ StOk X.K ((D, lstP acc) :: ω2) δ σ H' ∧ Kp (dom ω1) H1 (D :: dom ω2) H') ⟨ω1, [], j0, s1.cons hD hD0, (s1.own.cons hD hD0).2⟩ ?_ ?_
    · rintro i H' hi ⟨ω2, acc, hJ, s2, k2⟩
      refine ⟨set_wipe, fun s3 H3 C cl fp => ?_⟩
      rw [Int.zero_add]
      have sB : StOk X.K ((D, lstP acc) :: ω2) ((δ.set j none).set j (some (.dat (.int (i : Int))))) ((wipe σ [j]).set j (some (.int (i : Int)))) H' := ⟨(s2.env.wipe j).set (c := .dat (.int i)) (Rp.int _) j, s2.own⟩
      refine jt i ω2 acc D hi hJ s3 H3 C cl fp _ _ _ sB fun ω3 c v H4 ⟨d, e1, hz, ω4, e2, hJ'⟩ s4 k4 o4 => ?_
      subst e1; subst e2
      obtain ⟨u, m1, vs, rfl, m2⟩ := s4.own.at_ D _ List.mem_cons_self
      have ho : (lstP (acc ++ [d])).ok X.K (hid (dom ((D, lstP acc) :: ω4)) H4) (.lst (vs ++ [v])) := ⟨_, rfl, m2.append (.cons o4 .nil)⟩
      refine ⟨vs, m1, by rw [m2.len]; exact Nat.lt_of_lt_of_le hz (by decide), ω4, _, hJ', ?_, (k2.trans k4).trans (kp_upd List.mem_cons_self)⟩
      have oo := s4.own.put (i := 0) (p := D) (P := lstP acc) rfl ho
      exact ⟨s2.env.mono (k4.trans (kp_upd List.mem_cons_self)), oo⟩
    · rintro H' ⟨ω2, acc, hJ, s2, k2⟩
      exact q ω2 _ _ H' (je ω2 acc hJ) s2.drop (k1.trans (k2.trans (kp_drop (P := lstP acc)))) (own_lst s2.own)
theorem n_lcR (j : Nat) (hc : X.calm = true) (hn : X.N.Nodup) (hm : X.mg "range" = none) (hb : BlkOk X.N X.env.scope scope [(x, j)])
    (h : N X ω δ a fun ω1 c => ∃ n, c = .dat (.int n) ∧ -1000000 ≤ n ∧ n ≤ 1000000 ∧ ∃ J : Nat → Ow → List PyData → Prop, J 0 ω1 [] ∧
      (∀ i ω2 acc D, i < n.toNat → J i ω2 acc → BlkF X scope fun Y => N Y ((D, lstP acc) :: ω2) ((δ.set j none).set j (some (.dat (.int (i : Int))))) elt fun ω3 c => ∃ d, c = .dat d ∧ acc.length < 100000 ∧ ∃ ω4, ω3 = (D, lstP acc) :: ω4 ∧ J (i + 1) ω4 (acc ++ [d])) ∧
      ∀ ω2 acc, J n.toNat ω2 acc → Φ ω2 (.dat (.list acc)))
    (hgt : BlkF X scope fun Y => PG Y (.Name x p1) (gName j)) (hg : Gl X "range" := by rfl) (ha : starEach [a] X.env = [(false, eval a X.env)] := by rfl)
    (hs : ∀ y, foldedSetIterable (.Call (.Name "range" p2) [a] [] p3) X.env y = pure y := by intro _; rfl) : N X ω δ (.ListComp elt [{ target := .Name x p1, iter := .Call (.Name "range" p2) [a] [] p3, ifs := [], is_async := 0 }] scope pos) Φ :=
  n_lift (pe_lc (own := [(x, j)]) (g := gName j) (te := fun σ H Q => BlkF X scope fun Y => WE Y elt σ H Q) hc hn (pi_range1 hg hm (pa_cons (WE.pe X a) pa_nil ha) ha) hb hgt (fun _ _ _ _ _ => pts_nil) (fun s H C cl fp => ⟨fun pins s' σ' H' Q I q => q s H C cl fp pins s' I⟩) hs) fun σ H Q s q => t_lcR j h s q
theorem s_lcR (i j : Nat) {y : Str} {py spos : Pos} {E : En} (hc : X.calm = true) (hn : X.N.Nodup) (hm : X.mg "range" = none) (hb : BlkOk X.N X.env.scope scope [(x, j)])
    (h : N X ω δ a fun ω1 c => ∃ n, c = .dat (.int n) ∧ -1000000 ≤ n ∧ n ≤ 1000000 ∧ ∃ J : Nat → Ow → List PyData → Prop, J 0 ω1 [] ∧
      (∀ i ω2 acc D, i < n.toNat → J i ω2 acc → BlkF X scope fun Y => N Y ((D, lstP acc) :: ω2) ((δ.set j none).set j (some (.dat (.int (i : Int))))) elt fun ω3 c => ∃ d, c = .dat d ∧ acc.length < 100000 ∧ ∃ ω4, ω3 = (D, lstP acc) :: ω4 ∧ J (i + 1) ω4 (acc ++ [d])) ∧
      ∀ ω2 acc, J n.toNat ω2 acc → E.nx ω2 (δ.set i (some (.dat (.list acc)))))
    (hgt : BlkF X scope fun Y => PG Y (.Name x p1) (gName j)) (hg : Gl X "range" := by rfl) (ha : starEach [a] X.env = [(false, eval a X.env)] := by rfl)
    (hs : ∀ y, foldedSetIterable (.Call (.Name "range" p2) [a] [] p3) X.env y = pure y := by intro _; rfl)
    (hyN : X.N[i]? = some y := by rfl) (hyl : X.env.scope.names.lookup y = some .local := by rfl) (hkd : X.env.scope.kind = .function := by rfl) (hpl : (py.line == pos.line) = true := by rfl) (hfr : (scope.names.any fun (n, k) => n == y && (k == .local || k == .cell)) = false := by decide +kernel) : S X ω δ (.Assign [.Name y py] (.ListComp elt [{ target := .Name x p1, iter := .Call (.Name "range" p2) [a] [] p3, ifs := [], is_async := 0 }] scope pos) spos) E := fun σ H D s f =>
  WS.of (ps_setLc (i := i) (own := [(x, j)]) (g := gName j) (te := fun σ H Q => BlkF X scope fun Y => WE Y elt σ H Q) hc hn hyN hyl (sw_true hkd hyl hpl hfr) (pi_range1 hg hm (pa_cons (WE.pe X a) pa_nil ha) ha) hb hgt (fun _ _ _ _ _ => pts_nil) (fun s H C cl fp => ⟨fun pins s' σ' H' Q I q => q s H C cl fp pins s' I⟩) hs) (t_lcR (Φ := fun ω1 c => E.nx ω1 (δ.set i (some c))) j h s fun ω1 c v H1 q s1 k1 o1 => f.nx ω1 _ _ H1 q (s1.store i o1) k1)
/-- [elt for x in a list] -/
theorem t_lcL (j : Nat)
    (h : N X ω δ iter fun ω1 c => ∃ ds, c = .dat (.list ds) ∧ ∃ J : Nat → Ow → List PyData → Prop, J 0 ω1 [] ∧
      (∀ i ω2 acc D d0, ds[i]? = some d0 → J i ω2 acc → BlkF X scope fun Y => N Y ((D, lstP acc) :: ω2) ((δ.set j none).set j (some (.dat d0))) elt fun ω3 c => ∃ d, c = .dat d ∧ acc.length < 100000 ∧ ∃ ω4, ω3 = (D, lstP acc) :: ω4 ∧ J (i + 1) ω4 (acc ++ [d])) ∧
      ∀ ω2 acc, J ds.length ω2 acc → Φ ω2 (.dat (.list acc))) {σ : St} {H : Hp} {Q : VK} (s : StOk X.K ω δ σ H) (q : ∀ ω' c v H', Φ ω' c → StOk X.K ω' δ σ H' → Kp (dom ω) H (dom ω') H' → CellOk X.K (dom ω') H' v c → Q v H') :
    tLc (iList X.K (WE X iter)) (gName j) tYes (fun σ H Q => BlkF X scope fun Y => WE Y elt σ H Q) [j] σ H Q :=
  h σ H _ s fun ω1 c v H1 ⟨ds, e1, J, j0, jt, je⟩ s1 k1 o1 => by
    subst e1
    cases o1 with
    | @lst l xs _ hl hr =>
      refine ⟨l, rfl, ⟨xs, SqL.of (hid_some hl).2⟩, fun D hD => ?_⟩
      have hD0 : (lstP []).ok X.K (hid (dom ω1) H1) (.lst []) := ⟨[], rfl, .nil⟩
      refine lc_list (K := X.K) (a := l) (xs := xs) (g := gName j) (tt := tYes) (te := fun σ H Q => BlkF X scope fun Y => WE Y elt σ H Q) (vs := [j]) (σ := σ) (H1 := H1) (D := D) (Qd := fun H => Q (.ref D) H) (fun i H' => ∃ ω2 acc, J i ω2 acc ∧ StOk X.K ((D, lstP acc) :: ω2) δ σ H' ∧ Kp (dom ω1) H1 (D :: dom ω2) H') ⟨ω1, [], j0, s1.cons hD hD0, (s1.own.cons hD hD0).2⟩ ?_ ?_ ?_
      · rintro i H' _ ⟨ω2, acc, _, _, k2⟩
        exact SqL.of (hid_some (k2 _ _ hl)).2
      · rintro i y H' hy ⟨ω2, acc, hJ, s2, k2⟩
        refine ⟨set_wipe, fun s3 H3 C cl fp => ?_⟩
        obtain ⟨d0, hd0, rd0⟩ := hr.get' hy
        have sB : StOk X.K ((D, lstP acc) :: ω2) ((δ.set j none).set j (some (.dat d0))) ((wipe σ [j]).set j (some y)) H' := ⟨(s2.env.wipe j).set (c := .dat d0) (rd0.mono k2) j, s2.own⟩
        refine jt i ω2 acc D d0 hd0 hJ s3 H3 C cl fp _ _ _ sB fun ω3 c v H4 ⟨d, e1, hz, ω4, e2, hJ'⟩ s4 k4 o4 => ?_
        subst e1; subst e2
        obtain ⟨u, m1, vs, rfl, m2⟩ := s4.own.at_ D _ List.mem_cons_self
        have ho : (lstP (acc ++ [d])).ok X.K (hid (dom ((D, lstP acc) :: ω4)) H4) (.lst (vs ++ [v])) := ⟨_, rfl, m2.append (.cons o4 .nil)⟩
        refine ⟨vs, m1, by rw [m2.len]; exact Nat.lt_of_lt_of_le hz (by decide), ω4, _, hJ', ?_, (k2.trans k4).trans (kp_upd List.mem_cons_self)⟩
        have oo := s4.own.put (i := 0) (p := D) (P := lstP acc) rfl ho
        exact ⟨s2.env.mono (k4.trans (kp_upd List.mem_cons_self)), oo⟩
      · rintro H' ⟨ω2, acc, hJ, s2, k2⟩
        rw [hr.len] at hJ
        exact q ω2 _ _ H' (je ω2 acc hJ) s2.drop (k1.trans (k2.trans (kp_drop (P := lstP acc)))) (own_lst s2.own)
theorem n_lcL (j : Nat) (hc : X.calm = true) (hn : X.N.Nodup) (hb : BlkOk X.N X.env.scope scope [(x, j)])
    (h : N X ω δ iter fun ω1 c => ∃ ds, c = .dat (.list ds) ∧ ∃ J : Nat → Ow → List PyData → Prop, J 0 ω1 [] ∧
      (∀ i ω2 acc D d0, ds[i]? = some d0 → J i ω2 acc → BlkF X scope fun Y => N Y ((D, lstP acc) :: ω2) ((δ.set j none).set j (some (.dat d0))) elt fun ω3 c => ∃ d, c = .dat d ∧ acc.length < 100000 ∧ ∃ ω4, ω3 = (D, lstP acc) :: ω4 ∧ J (i + 1) ω4 (acc ++ [d])) ∧
      ∀ ω2 acc, J ds.length ω2 acc → Φ ω2 (.dat (.list acc)))
    (hgt : BlkF X scope fun Y => PG Y (.Name x p1) (gName j)) (hs : ∀ y, foldedSetIterable iter X.env y = pure y := by intro _; rfl) : N X ω δ (.ListComp elt [{ target := .Name x p1, iter := iter, ifs := [], is_async := 0 }] scope pos) Φ :=
  n_lift (pe_lc (own := [(x, j)]) (g := gName j) (te := fun σ H Q => BlkF X scope fun Y => WE Y elt σ H Q) hc hn (pi_list (WE.pe X iter)) hb hgt (fun _ _ _ _ _ => pts_nil) (fun s H C cl fp => ⟨fun pins s' σ' H' Q I q => q s H C cl fp pins s' I⟩) hs) fun σ H Q s q => t_lcL j h s q
theorem s_lcL (i j : Nat) {y : Str} {py spos : Pos} {E : En} (hc : X.calm = true) (hn : X.N.Nodup) (hb : BlkOk X.N X.env.scope scope [(x, j)])
    (h : N X ω δ iter fun ω1 c => ∃ ds, c = .dat (.list ds) ∧ ∃ J : Nat → Ow → List PyData → Prop, J 0 ω1 [] ∧
      (∀ i ω2 acc D d0, ds[i]? = some d0 → J i ω2 acc → BlkF X scope fun Y => N Y ((D, lstP acc) :: ω2) ((δ.set j none).set j (some (.dat d0))) elt fun ω3 c => ∃ d, c = .dat d ∧ acc.length < 100000 ∧ ∃ ω4, ω3 = (D, lstP acc) :: ω4 ∧ J (i + 1) ω4 (acc ++ [d])) ∧
      ∀ ω2 acc, J ds.length ω2 acc → E.nx ω2 (δ.set i (some (.dat (.list acc)))))
    (hgt : BlkF X scope fun Y => PG Y (.Name x p1) (gName j)) (hs : ∀ y, foldedSetIterable iter X.env y = pure y := by intro _; rfl)
    (hyN : X.N[i]? = some y := by rfl) (hyl : X.env.scope.names.lookup y = some .local := by rfl) (hkd : X.env.scope.kind = .function := by rfl) (hpl : (py.line == pos.line) = true := by rfl) (hfr : (scope.names.any fun (n, k) => n == y && (k == .local || k == .cell)) = false := by decide +kernel) : S X ω δ (.Assign [.Name y py] (.ListComp elt [{ target := .Name x p1, iter := iter, ifs := [], is_async := 0 }] scope pos) spos) E := fun σ H D s f =>
  WS.of (ps_setLc (i := i) (own := [(x, j)]) (g := gName j) (te := fun σ H Q => BlkF X scope fun Y => WE Y elt σ H Q) hc hn hyN hyl (sw_true hkd hyl hpl hfr) (pi_list (WE.pe X iter)) hb hgt (fun _ _ _ _ _ => pts_nil) (fun s H C cl fp => ⟨fun pins s' σ' H' Q I q => q s H C cl fp pins s' I⟩) hs) (t_lcL (Φ := fun ω1 c => E.nx ω1 (δ.set i (some c))) j h s fun ω1 c v H1 q s1 k1 o1 => f.nx ω1 _ _ H1 q (s1.store i o1) k1)
/-- [elt for x in a list if test] -/
theorem t_lcLi (j : Nat) {test : Expr}
    (h : N X ω δ iter fun ω1 c => ∃ ds, c = .dat (.list ds) ∧ ∃ J : Nat → Ow → List PyData → Prop, J 0 ω1 [] ∧
      (∀ i ω2 acc D d0, ds[i]? = some d0 → J i ω2 acc → BlkF X scope fun Y => NT Y ((D, lstP acc) :: ω2) ((δ.set j none).set j (some (.dat d0))) test fun ω3 k =>
        if k = true then BlkF X scope fun Y => N Y ω3 ((δ.set j none).set j (some (.dat d0))) elt fun ω3 c => ∃ d, c = .dat d ∧ acc.length < 100000 ∧ ∃ ω4, ω3 = (D, lstP acc) :: ω4 ∧ J (i + 1) ω4 (acc ++ [d]) else ∃ ω4, ω3 = (D, lstP acc) :: ω4 ∧ J (i + 1) ω4 acc) ∧
      ∀ ω2 acc, J ds.length ω2 acc → Φ ω2 (.dat (.list acc))) {σ : St} {H : Hp} {Q : VK} (s : StOk X.K ω δ σ H) (q : ∀ ω' c v H', Φ ω' c → StOk X.K ω' δ σ H' → Kp (dom ω) H (dom ω') H' → CellOk X.K (dom ω') H' v c → Q v H') :
    tLc (iList X.K (WE X iter)) (gName j) (fun σ H Q => BlkF X scope fun Y => WT Y test σ H Q) (fun σ H Q => BlkF X scope fun Y => WE Y elt σ H Q) [j] σ H Q :=
  h σ H _ s fun ω1 c v H1 ⟨ds, e1, J, j0, jt, je⟩ s1 k1 o1 => by
    subst e1
    cases o1 with
    | @lst l xs _ hl hr =>
      refine ⟨l, rfl, ⟨xs, SqL.of (hid_some hl).2⟩, fun D hD => ?_⟩
      have hD0 : (lstP []).ok X.K (hid (dom ω1) H1) (.lst []) := ⟨[], rfl, .nil⟩
      refine lc_list (K := X.K) (a := l) (xs := xs) (g := gName j) (tt := fun σ H Q => BlkF X scope fun Y => WT Y test σ H Q) (te := fun σ H Q => BlkF X scope fun Y => WE Y elt σ H Q) (vs := [j]) (σ := σ) (H1 := H1) (D := D) (Qd := fun H => Q (.ref D) H) (fun i H' => ∃ ω2 acc, J i ω2 acc ∧ StOk X.K ((D, lstP acc) :: ω2) δ σ H' ∧ Kp (dom ω1) H1 (D :: dom ω2) H') ⟨ω1, [], j0, s1.cons hD hD0, (s1.own.cons hD hD0).2⟩ ?_ ?_ ?_
      · rintro i H' _ ⟨ω2, acc, _, _, k2⟩
        exact SqL.of (hid_some (k2 _ _ hl)).2
      · rintro i y H' hy ⟨ω2, acc, hJ, s2, k2⟩
        refine ⟨set_wipe, fun s3 H3 C cl fp => ?_⟩
        obtain ⟨d0, hd0, rd0⟩ := hr.get' hy
        have sB : StOk X.K ((D, lstP acc) :: ω2) ((δ.set j none).set j (some (.dat d0))) ((wipe σ [j]).set j (some y)) H' := ⟨(s2.env.wipe j).set (c := .dat d0) (rd0.mono k2) j, s2.own⟩
        refine jt i ω2 acc D d0 hd0 hJ s3 H3 C cl fp _ _ _ sB fun ω5 k H5 f5 s5 k5 => ?_
        cases k with
        | true =>
          refine fun s6 H6 C6 cl6 fp6 => f5 s6 H6 C6 cl6 fp6 _ _ _ s5 fun ω3 c v H4 ⟨d, e1, hz, ω4, e2, hJ'⟩ s4 k4 o4 => ?_
          subst e1; subst e2
          obtain ⟨u, m1, vs, rfl, m2⟩ := s4.own.at_ D _ List.mem_cons_self
          have ho : (lstP (acc ++ [d])).ok X.K (hid (dom ((D, lstP acc) :: ω4)) H4) (.lst (vs ++ [v])) := ⟨_, rfl, m2.append (.cons o4 .nil)⟩
          refine ⟨vs, m1, by rw [m2.len]; exact Nat.lt_of_lt_of_le hz (by decide), ω4, _, hJ', ?_, (k2.trans (k5.trans k4)).trans (kp_upd List.mem_cons_self)⟩
          have oo := s4.own.put (i := 0) (p := D) (P := lstP acc) rfl ho
          exact ⟨s2.env.mono ((k5.trans k4).trans (kp_upd List.mem_cons_self)), oo⟩
        | false =>
          obtain ⟨ω4, e2, hJ'⟩ := f5
          subst e2
          exact ⟨ω4, acc, hJ', ⟨s2.env.mono k5, s5.own⟩, k2.trans k5⟩
      · rintro H' ⟨ω2, acc, hJ, s2, k2⟩
        rw [hr.len] at hJ
        exact q ω2 _ _ H' (je ω2 acc hJ) s2.drop (k1.trans (k2.trans (kp_drop (P := lstP acc)))) (own_lst s2.own)
theorem n_lcLi (j : Nat) {test : Expr} (hc : X.calm = true) (hn : X.N.Nodup) (hb : BlkOk X.N X.env.scope scope [(x, j)])
    (h : N X ω δ iter fun ω1 c => ∃ ds, c = .dat (.list ds) ∧ ∃ J : Nat → Ow → List PyData → Prop, J 0 ω1 [] ∧
      (∀ i ω2 acc D d0, ds[i]? = some d0 → J i ω2 acc → BlkF X scope fun Y => NT Y ((D, lstP acc) :: ω2) ((δ.set j none).set j (some (.dat d0))) test fun ω3 k =>
        if k = true then BlkF X scope fun Y => N Y ω3 ((δ.set j none).set j (some (.dat d0))) elt fun ω3 c => ∃ d, c = .dat d ∧ acc.length < 100000 ∧ ∃ ω4, ω3 = (D, lstP acc) :: ω4 ∧ J (i + 1) ω4 (acc ++ [d]) else ∃ ω4, ω3 = (D, lstP acc) :: ω4 ∧ J (i + 1) ω4 acc) ∧
      ∀ ω2 acc, J ds.length ω2 acc → Φ ω2 (.dat (.list acc)))
    (hgt : BlkF X scope fun Y => PG Y (.Name x p1) (gName j)) (hs : ∀ y, foldedSetIterable iter X.env y = pure y := by intro _; rfl) : N X ω δ (.ListComp elt [{ target := .Name x p1, iter := iter, ifs := [test], is_async := 0 }] scope pos) Φ :=
  n_lift (pe_lc (own := [(x, j)]) (g := gName j) (tt := fun σ H Q => BlkF X scope fun Y => WT Y test σ H Q) (te := fun σ H Q => BlkF X scope fun Y => WE Y elt σ H Q) hc hn (pi_list (WE.pe X iter)) hb hgt (fun s H C cl fp => pts_one ⟨fun pins s' σ' H' Q I q => q s H C cl fp pins s' I⟩) (fun s H C cl fp => ⟨fun pins s' σ' H' Q I q => q s H C cl fp pins s' I⟩) hs) fun σ H Q s q => t_lcLi j h s q
theorem s_lcLi (i j : Nat) {y : Str} {py spos : Pos} {E : En} {test : Expr} (hc : X.calm = true) (hn : X.N.Nodup) (hb : BlkOk X.N X.env.scope scope [(x, j)])
    (h : N X ω δ iter fun ω1 c => ∃ ds, c = .dat (.list ds) ∧ ∃ J : Nat → Ow → List PyData → Prop, J 0 ω1 [] ∧
      (∀ i ω2 acc D d0, ds[i]? = some d0 → J i ω2 acc → BlkF X scope fun Y => NT Y ((D, lstP acc) :: ω2) ((δ.set j none).set j (some (.dat d0))) test fun ω3 k =>
        if k = true then BlkF X scope fun Y => N Y ω3 ((δ.set j none).set j (some (.dat d0))) elt fun ω3 c => ∃ d, c = .dat d ∧ acc.length < 100000 ∧ ∃ ω4, ω3 = (D, lstP acc) :: ω4 ∧ J (i + 1) ω4 (acc ++ [d]) else ∃ ω4, ω3 = (D, lstP acc) :: ω4 ∧ J (i + 1) ω4 acc) ∧
      ∀ ω2 acc, J ds.length ω2 acc → E.nx ω2 (δ.set i (some (.dat (.list acc)))))
    (hgt : BlkF X scope fun Y => PG Y (.Name x p1) (gName j)) (hs : ∀ y, foldedSetIterable iter X.env y = pure y := by intro _; rfl)
    (hyN : X.N[i]? = some y := by rfl) (hyl : X.env.scope.names.lookup y = some .local := by rfl) (hkd : X.env.scope.kind = .function := by rfl) (hpl : (py.line == pos.line) = true := by rfl) (hfr : (scope.names.any fun (n, k) => n == y && (k == .local || k == .cell)) = false := by decide +kernel) : S X ω δ (.Assign [.Name y py] (.ListComp elt [{ target := .Name x p1, iter := iter, ifs := [test], is_async := 0 }] scope pos) spos) E := fun σ H D s f =>
  WS.of (ps_setLc (i := i) (own := [(x, j)]) (g := gName j) (tt := fun σ H Q => BlkF X scope fun Y => WT Y test σ H Q) (te := fun σ H Q => BlkF X scope fun Y => WE Y elt σ H Q) hc hn hyN hyl (sw_true hkd hyl hpl hfr) (pi_list (WE.pe X iter)) hb hgt (fun s H C cl fp => pts_one ⟨fun pins s' σ' H' Q I q => q s H C cl fp pins s' I⟩) (fun s H C cl fp => ⟨fun pins s' σ' H' Q I q => q s H C cl fp pins s' I⟩) hs) (t_lcLi (Φ := fun ω1 c => E.nx ω1 (δ.set i (some c))) j h s fun ω1 c v H1 q s1 k1 o1 => f.nx ω1 _ _ H1 q (s1.store i o1) k1)
end
end DL

namespace DL
open PySem PySem.Spec L2
open PyProof.Rows (importsNone AllBare)
/-! ## the end of a law -/
/-- what a law's def promises: for a script of at most 63 ints (each of at most 2 ^ 20 bits) the answer is True -/
def lawC : Con := fun cs ω Φ => ∃ ns : List Int, cs = [.scr ns] ∧ ns.length ≤ 63 ∧ ω = [] ∧ Φ [] (.dat (.bool true))
theorem lawC_len {cs : List Cell} {ω : Ow} {Φ : Ow → Cell → Prop} (h : lawC cs ω Φ) : cs.length = 1 := by
  obtain ⟨ns, rfl, _⟩ := h
  rfl
theorem law_end {l : PySem.W.OpenLaw} {k : Nat} {q : Program} {loose : List Str} {XP : (Str → Option Value) → Heap → Prop} {YP : World → Heap → Prop} {d : DefRec} {K : Params → PySem.W.Frag} {x : Str}
    (hn : l.most = some 63) (hdf : d.params.defaults = []) (hr : Room k callerA) (hY : ∀ (w : World) (h : Heap), YP w h → (K w.params).In h) (hi : importsNone q = true)
    (F : ∀ (w : World) (mg : Str → Option Value) (fa : Addr) (h : Heap), (K w.params).In h → h.Ns mainGlobals mg → mg d.name = some (.ref fa) →
      ∃ fd : FuncData, (∀ (s : Shared) (u : Value), BindsTo s fd ⟨[u], []⟩ [(x, u)]) ∧
        ∀ base : Heap, (K w.params).In base → base.Ns mainGlobals mg → (∃ m, base.Ns sysModules m) → FnG l.prog w (K w.params) mg base k fa fd [x] (spD (K w.params) lawC)) :
    PySem.W.WalkO q loose XP YP l.row.toRowW d [] (fun f vs => PySem.call f vs) := by
  refine Att.attach_callB hn hdf fun w s₀ s₁ mg mb fa o pm cd doc a vs ns G Y ho hd hcd hmg hobj hints hlen hbits hgens => ?_
  obtain ⟨fd, bind, prom⟩ := F w mg fa _ (hY w _ Y) G.T.g hmg
  have sees := G.T.seer hi
  have rv := vals_ints hints
  have szl : ns.length ≤ sizeLine := Nat.le_trans hlen (by decide)
  obtain ⟨mm, hmods, _⟩ := sees.mods
  have kin := hY w _ Y
  -- whatever is tracked at the call is the script's own list, held as it stands
  have go : ∀ H : Hp, (∀ b, H b = none ∨ (b = a ∧ H b = some (.frz { cls := .type "list", data := .seq vs.toArray } (.lst (ns.map V.int))))) → (H a ≠ none → (K w.params).lookup a = none) → SqL (K w.params) H a (ns.map V.int) →
      codeAny (model l.prog w) callerA (.call (.ref fa) ⟨[.ref a], []⟩) (fun r s' => r = .ok (.ret (.bool true)) ∧ OldK s₁.heap s'.heap ∧ s'.os = s₁.os ∧ AllBare s'.gens) s₁ := by
    intro H only notK hS
    have hold : HOk l.prog w H s₁.heap := by
      intro b u z
      rcases only b with e | ⟨rfl, e⟩
      · rw [e] at z; cases z
      · rw [e] at z
        cases z
        exact ⟨hobj, by rw [List.length_map]; exact szl, vs, _, rv, hobj⟩
    have below : ∀ {b : Addr} {u : Obj}, s₁.heap.get? b = some u → b ≠ a → (hidT s₁.heap H).get? b = some u := fun {b u} z nb => hidT_get z ((only b).resolve_right fun e => nb e.1)
    have nsB : ∀ {b : Addr} {m : Str → Option Value}, s₁.heap.Ns b m → (hidT s₁.heap H).Ns b m := by
      rintro b m ⟨u, es, ep, z, hdict, tail⟩
      refine ⟨u, es, ep, below z ?_, hdict, tail⟩
      rintro rfl
      rw [hobj] at z
      cases z
      cases hdict
    have kinB : (K w.params).In (hidT s₁.heap H) := by
      intro b u z
      refine hidT_get (kin b u z) ?_
      rcases only b with e | ⟨rfl, e⟩
      · exact e
      · rw [notK (by rw [e]; simp)] at z
        cases z
    obtain ⟨mc, lim1, lim2⟩ := G.T.nolimit
    have md : Mod (K w.params) mg (hidT s₁.heap H) := ⟨kinB, nsB G.T.g, ⟨mb, nsB G.T.b, G.T.builtins⟩, ⟨mc, nsB lim1, lim2⟩⟩
    have en : Env0 l.prog w (K w.params) mg (hidT s₁.heap H) callerA [] s₁ H := ⟨rfl, md, fun b u z => of_hidT z, Nat.le_of_eq (hidT_size _ _), trivial, fun b z => (List.not_mem_nil z).elim, hold, .of_eq hgens⟩
    have PR := prom (hidT s₁.heap H) kinB (nsB G.T.g) ⟨mm, nsB hmods⟩
    have want : spD (K w.params) lawC [.ref a] H (fun v _ => v = .bl true) (fun _ _ _ => False) := by
      refine ⟨[], [.scr ns], fun ω' c => ω' = [] ∧ c = .dat (.bool true), .cons ⟨a, rfl, ?_⟩ .nil, ⟨List.nodup_nil, fun p P z => (List.not_mem_nil z).elim⟩, ⟨ns, rfl, hlen, rfl, rfl, rfl⟩, ?_⟩
      · have e : hid (dom ([] : Ow)) H = H := by
          funext b
          exact hid_out (fun z => (List.not_mem_nil z).elim)
        rw [e]
        exact hS
      · rintro ω' c v H' ⟨rfl, rfl⟩ _ _ o
        exact bool_of o
    refine codeAny_mono (PR.run callerA [] s₁ H ⟨[.ref a], []⟩ [.ref a] [.ref a] _ _ rfl hr en (bind s₁ (.ref a)) (.cons rfl .nil) want) fun r s' h => ?_
    cases r with
    | error e => exact h.elim
    | ok fl =>
      cases fl with
      | next => exact h.elim
      | brk => exact h.elim
      | cont => exact h.elim
      | ret u =>
        obtain ⟨v, H', hos, hbare, un, held, rl, q⟩ := h
        subst q
        cases (show u = Value.bool true from rl)
        refine ⟨rfl, OldK.of_keep fun b u z => ?_, hos, hbare⟩
        rcases only b with e | ⟨rfl, e⟩
        · exact un.keep b u z e (fun y => (List.not_mem_nil y).elim) (fun y => (List.not_mem_nil y).elim)
        · have z2 := (held b _ (un.frzs b _ _ e)).1
          rw [hobj] at z
          cases z
          exact z2
  cases hk : (K w.params).lookup a with
  | some u =>
    have z := kin a u hk
    rw [hobj] at z
    cases z
    exact go (fun _ => none) (fun b => .inl rfl) (fun z => absurd rfl z) (.inr ⟨_, vs.toArray, _, hk, rfl, rfl, rfl, by rw [List.size_toArray, hints.length]; exact szl, by simpa using rv⟩)
  | none =>
    refine go (fun b => if b = a then some (.frz { cls := .type "list", data := .seq vs.toArray } (.lst (ns.map V.int))) else none) (fun b => ?_) (fun _ => hk) (.inl (.inr ⟨_, if_pos rfl⟩))
    by_cases hb : b = a
    · exact .inr ⟨hb, if_pos hb⟩
    · exact .inl (if_neg hb)
end DL

namespace DL
open PySem PySem.Spec L2
/-! ## defs as they stand, and what they are ready to promise -/
structure Has (K : PySem.W.Frag) (mg : Str → Option Value) (name : Str) (st : Stmt) (ps : List Str) : Prop where
  ex : ∃ f fd, Fun K name name st f fd ∧ mg name = some (.ref f) ∧ Binds K fd ps []
structure Rdy (P : Program) (w : World) (K : PySem.W.Frag) (mg : Str → Option Value) (base : Heap) (k : Nat) (name : Str) (ps : List Str) (C : Con) : Prop where
  ex : ∃ f fd, FnOk P w K mg base CX0 k f fd ps (spD K C) ∧ mg name = some (.ref f) ∧ PySem.W.keepIn K (.ref f) = true ∧ Binds K fd ps []
structure RdG (P : Program) (w : World) (K : PySem.W.Frag) (mg : Str → Option Value) (base : Heap) (k : Nat) (name : Str) (ps : List Str) (C : Con) : Prop where
  ex : ∃ f fd, FnG P w K mg base k f fd ps (spD K C) ∧ mg name = some (.ref f) ∧ PySem.W.keepIn K (.ref f) = true ∧ Binds K fd ps []
section
variable {P : Program} {w : World} {K : PySem.W.Frag} {mg : Str → Option Value} {base : Heap} {name : Str} {st : Stmt} {Nm ps : List Str} {k : Nat} {C : Con}
theorem has_mk {h : Heap} {f : Addr} {od an : Option Addr} {sl : Array (Option Value)} {oc kV doc pm cd ct : Value} (X : K.In h) (G : h.Ns mainGlobals mg) (a : PySem.W.nsIn K mainGlobals name = some (some (.ref f)))
    (l : K.lookup f = some ⟨oc, od, .func (PySem.W.fnOf name name (defArgs st) (defBody st) (defScope st) .none kV doc pm an cd ct), sl⟩) (c : PySem.W.codeIn K cd name = true) (kp : PySem.W.keepIn K (.ref f) = true)
    (b : ∀ (kV doc pm : Value) (an : Option Addr) (cdv ct : Value) (us : List Value), us.length = ps.length → bindArgs (PySem.W.fnOf name name (defArgs st) (defBody st) (defScope st) .none kV doc pm an cdv ct) ⟨us, []⟩ = pure (ps.zip us)) : Has K mg name st ps :=
  ⟨f, _, fun_mk (st := st) l c kp, PySem.W.mg_of X G a, (fun_mk (st := st) l c kp).binds b⟩
theorem rdy (F : Has K mg name st ps) (sc : FnScope Nm ps (defScope st)) (len : ∀ cs ω Φ, C cs ω Φ → cs.length = ps.length)
    (body : ∀ (X : Cx) (f : Addr) (cdv : Value) (A : Around) (outer : List PySem.Env) (s : Shared) (H : Hp) (E : XK), X = (cxOf CX0 P w K mg base Nm name (defScope st) f cdv A outer s H E).nox → Room k X.A → ∀ cs ω Φ, C cs ω Φ → B X ω (startE Nm cs) (defBody st) { nx := fun ω' _ => Φ ω' (.dat .none), rt := Φ }) :
    Rdy P w K mg base (k + 1) name ps C := by
  obtain ⟨f, fd, F, hm, hb⟩ := F.ex
  exact ⟨f, fd, okD F sc len fun X => body X f, hm, F.kp, hb⟩
theorem rdg (F : Has K mg name st ps) (sc : FnScope Nm ps (defScope st)) (len : ∀ cs ω Φ, C cs ω Φ → cs.length = ps.length)
    (body : ∀ (X : Cx) (f : Addr) (cdv : Value) (A : Around) (outer : List PySem.Env) (s : Shared) (H : Hp) (E : XK), X = (cxOf CX0 P w K mg base Nm name (defScope st) f cdv A outer s H E).nox → X.A.guards = some [] → Room k X.A → ∀ cs ω Φ, C cs ω Φ → B X ω (startE Nm cs) (defBody st) { nx := fun ω' _ => Φ ω' (.dat .none), rt := Φ }) :
    RdG P w K mg base (k + 1) name ps C := by
  obtain ⟨f, fd, F, hm, hb⟩ := F.ex
  exact ⟨f, fd, okG F sc len fun X => body X f, hm, F.kp, hb⟩
end
section
variable {X : Cx} {ω : Ow} {δ : Env} {e a b c : Expr} {rest es : List Expr} {Φ : Ow → Cell → Prop} {pos p1 : Pos} {x : Str} {k j : Nat} {ps : List Str} {C : Con}
theorem n_fn (R : Rdy X.prog X.w X.K X.mg X.base j x ps C) (hr : Room k X.A) (h : NA X ω δ (e :: es) fun ω1 cs => C cs ω1 Φ) (hjk : j ≤ k := by decide) (hg : Gl X x := by rfl)
    (hdb : (x == ("__debug__" : Str)) = false := by decide) (he : starEach (e :: es) X.env = (false, eval e X.env) :: starEach es X.env := by rfl) (hpl : (backTo pos (starEach es X.env)).any (·.1) = false := by rfl) : N X ω δ (.Call (.Name x p1) (e :: es) [] pos) Φ := by
  obtain ⟨f, fd, G, hm, hk, hb⟩ := R.ex
  exact n_call G (hr.mono hjk) hm hk hb h hg hdb he hpl
theorem n_fnG (R : RdG X.prog X.w X.K X.mg X.base j x ps C) (hgd : X.A.guards = some []) (hr : Room k X.A) (h : NA X ω δ (e :: es) fun ω1 cs => C cs ω1 Φ) (hjk : j ≤ k := by decide) (hg : Gl X x := by rfl)
    (hdb : (x == ("__debug__" : Str)) = false := by decide) (he : starEach (e :: es) X.env = (false, eval e X.env) :: starEach es X.env := by rfl) (hpl : (backTo pos (starEach es X.env)).any (·.1) = false := by rfl) : N X ω δ (.Call (.Name x p1) (e :: es) [] pos) Φ := by
  obtain ⟨f, fd, G, hm, hk, hb⟩ := R.ex
  exact n_callG G hgd (hr.mono hjk) hm hk hb h hg hdb he hpl
end
theorem room_u {k : Nat} {A : Around} (h : Room k A) : A.units + 100 < cLine := by have := h.un; omega
theorem room_u64 {k : Nat} {A : Around} (h : Room k A) : A.units + 64 < cLine := by have := h.un; omega
/-! ## weakening, cuts, seals -/
section
variable {X : Cx} {ω : Ow} {δ : Env} {st : Stmt} {sts rest : List Stmt} {E E' : En}
theorem Fits.imp {K : PySem.W.Frag} {H : Hp} {D : Ends} (f : Fits K ω H E' D) (h1 : ∀ ω' δ', E.nx ω' δ' → E'.nx ω' δ') (h2 : ∀ ω' c, E.rt ω' c → E'.rt ω' c) (h3 : ∀ ω' δ', E.bk ω' δ' → E'.bk ω' δ') (h4 : ∀ ω' δ', E.ct ω' δ' → E'.ct ω' δ') : Fits K ω H E D :=
  ⟨fun a b c d q => f.nx a b c d (h1 _ _ q), fun a b c d q => f.rt a b c d (h2 _ _ q), fun a b c d q => f.bk a b c d (h3 _ _ q), fun a b c d q => f.ct a b c d (h4 _ _ q)⟩
/-- a statement, and what holds behind it; the rest from there -/
theorem b_mid (M : Ow → Env → Prop) (h1 : S X ω δ st { E with nx := M }) (h2 : ∀ ω' δ', M ω' δ' → B X ω' δ' rest E) : B X ω δ (st :: rest) E :=
  b_cons fun σ H D s f => h1 σ H D s (f.imp (E := { E with nx := M }) (fun ω' δ' q => h2 ω' δ' q) (fun _ _ q => q) (fun _ _ q => q) fun _ _ q => q)
/-- a list whose items are not told but for what I says of them -/
def sealP (I : List PyData → Prop) : OwnP := ⟨fun K H o => ∃ its, I its ∧ (lstP its).ok K H o, fun K H H' o e ⟨its, h1, h2⟩ => ⟨its, h1, (lstP its).mono _ _ _ _ e h2⟩⟩
theorem OwnOk.swap {K : PySem.W.Frag} {H : Hp} {n : Nat} {p : Addr} {P P' : OwnP} (s : OwnOk K ω H) (h : ω[n]? = some (p, P)) (hp : ∀ o, H p = some o → P.ok K (hid (dom ω) H) o → P'.ok K (hid (dom ω) H) o) : OwnOk K (ω.set n (p, P')) H := by
  refine ⟨by rw [dom_set h]; exact s.nd, fun a R q => ?_⟩
  rw [dom_set h]
  obtain ⟨j, hj⟩ := List.getElem?_of_mem q
  rw [List.getElem?_set] at hj
  split at hj
  · split at hj
    · cases hj
      obtain ⟨o, h1, h2⟩ := s.at_ p P (List.mem_of_getElem? h)
      exact ⟨o, h1, hp o h1 h2⟩
    · cases hj
  · exact s.at_ a R (List.mem_of_getElem? hj)
theorem set_back {n : Nat} {p : Addr} {P P' : OwnP} (h : ω[n]? = some (p, P)) : (ω.set n (p, P')).set n (p, P) = ω := by
  rw [List.set_set]
  apply List.ext_getElem?
  intro j
  rw [List.getElem?_set]
  split
  · rename_i e
    subst e
    rw [if_pos (List.getElem?_eq_some_iff.mp h).1, h]
  · rfl
/-- a sealed list opened for a block, and closed at its ends -/
def closeE (ω : Ow) (n : Nat) (p : Addr) (I : List PyData → Prop) (E : En) : En where
  nx := fun ω' δ' => ∃ its, I its ∧ ω' = ω.set n (p, lstP its) ∧ E.nx ω δ'
  rt := fun ω' c => ∃ its, I its ∧ ω' = ω.set n (p, lstP its) ∧ E.rt ω c
  bk := fun ω' δ' => ∃ its, I its ∧ ω' = ω.set n (p, lstP its) ∧ E.bk ω δ'
  ct := fun ω' δ' => ∃ its, I its ∧ ω' = ω.set n (p, lstP its) ∧ E.ct ω δ'
theorem get_set {n : Nat} {p : Addr} {P P' : OwnP} (h : ω[n]? = some (p, P)) : (ω.set n (p, P'))[n]? = some (p, P') := by
  rw [List.getElem?_set, if_pos rfl, if_pos (List.getElem?_eq_some_iff.mp h).1]
theorem opened_ {K : PySem.W.Frag} {H : Hp} {n : Nat} {p : Addr} {I : List PyData → Prop} (s : OwnOk K ω H) (h : ω[n]? = some (p, sealP I)) : ∃ its, I its ∧ OwnOk K (ω.set n (p, lstP its)) H := by
  obtain ⟨o, h1, its, h2, h3⟩ := s.at_ p _ (List.mem_of_getElem? h)
  refine ⟨its, h2, s.swap h fun o' e _ => ?_⟩
  rw [h1] at e
  cases e
  exact h3
theorem closed_ {K : PySem.W.Frag} {H : Hp} {n : Nat} {p : Addr} {I : List PyData → Prop} {its : List PyData} (h : ω[n]? = some (p, sealP I)) (hI : I its) (s : OwnOk K (ω.set n (p, lstP its)) H) : OwnOk K ω H := by
  have q := s.swap (P' := sealP I) (get_set h) fun o _ ho => ⟨its, hI, ho⟩
  rw [set_back h] at q
  exact q
theorem b_open {n : Nat} {p : Addr} {I : List PyData → Prop} (hn : ω[n]? = some (p, sealP I)) (h : ∀ its, I its → B X (ω.set n (p, lstP its)) δ sts (closeE ω n p I E)) : B X ω δ sts E := fun σ H D s f => by
  obtain ⟨its, hI, ow⟩ := opened_ s.own hn
  have de : ∀ jts, dom (ω.set n (p, lstP jts)) = dom ω := fun _ => dom_set hn
  refine h its hI σ H D ⟨by rw [de]; exact s.env, ow⟩ ⟨?_, ?_, ?_, ?_⟩
  · rintro ω' δ' σ' H' ⟨jts, hJ, rfl, q⟩ s' k
    rw [de, de] at k
    exact f.nx ω δ' σ' H' q ⟨by have := s'.env; rw [de] at this; exact this, closed_ hn hJ s'.own⟩ k
  · rintro ω' c v H' ⟨jts, hJ, rfl, q⟩ s' k o
    rw [de] at o
    rw [de, de] at k
    exact f.rt ω c v H' q (closed_ hn hJ s') k o
  · rintro ω' δ' σ' H' ⟨jts, hJ, rfl, q⟩ s' k
    rw [de, de] at k
    exact f.bk ω δ' σ' H' q ⟨by have := s'.env; rw [de] at this; exact this, closed_ hn hJ s'.own⟩ k
  · rintro ω' δ' σ' H' ⟨jts, hJ, rfl, q⟩ s' k
    rw [de, de] at k
    exact f.ct ω δ' σ' H' q ⟨by have := s'.env; rw [de] at this; exact this, closed_ hn hJ s'.own⟩ k
end
/-! ## texts repeated -/
def repS (z : Str) (k : Int) : Str := ⟨(List.replicate k.toNat z.cps).foldl (· ++ ·) #[]⟩
theorem op_repS {X : Cx} : OpR X (binaryOp .Mult) (fun x y H Q => ∃ z k, x = .str z ∧ y = .int k ∧ 2 ≤ k ∧ k ≤ 100000 ∧ 1 ≤ z.length ∧ z.length * k.toNat ≤ 1000000 ∧ (repS z k).length ≤ sizeLine ∧ Q (.str (repS z k)) H) := by
  intro pins s σ H x y v u Q I rx ry h
  obtain ⟨z, k, rfl, rfl, h1, h2, h3, h4, h5, q⟩ := h
  obtain ⟨t, rfl⟩ := rx
  obtain ⟨t', rfl⟩ := ry
  have e1 : (k == 1 || z.length == 0) = false := by
    rw [Bool.or_eq_false_iff]
    exact ⟨beq_eq_false_iff_ne.mpr (by omega), beq_eq_false_iff_ne.mpr (by omega)⟩
  refine PySem.P.mul_str ?_ ?_ ?_ ?_
  · rw [Bool.or_eq_false_iff]
    exact ⟨decide_eq_false (by omega), decide_eq_false (by omega)⟩
  · intro _ _
    have e2 : ((z.length * k.toNat : Nat) : Int) ≤ 1000000 := by omega
    rw [Int.natCast_mul, Int.toNat_of_nonneg (by omega)] at e2
    have h6 : (z.length : Int) ≤ (2 ^ 63 - 1) / k := Int.le_ediv_of_mul_le (by omega) (by omega)
    omega
  · intro _ _
    exact decide_eq_false (by
      have : (1000000 : Nat) ≤ sizeLine := by decide
      omega)
  · rw [if_neg (by omega), e1]
    exact ⟨h5, .str (repS z k), H, I.tok _, ⟨_, rfl⟩, q⟩
theorem n_repS {X : Cx} {ω : Ow} {δ : Env} {a b : Expr} {Φ : Ow → Cell → Prop} {pos : Pos} (h : N X ω δ a fun ω1 c1 => N X ω1 δ b fun ω2 c2 => ∃ z k, c1 = .dat (.str z) ∧ c2 = .dat (.int k) ∧ 2 ≤ k ∧ k ≤ 100000 ∧ 1 ≤ z.length ∧ z.length * k.toNat ≤ 1000000 ∧ (repS z k).length ≤ sizeLine ∧ Φ ω2 (.dat (.str (repS z k)))) : N X ω δ (.BinOp a .Mult b pos) Φ :=
  n_bop op_repS (h.imp fun _ _ h0 => h0.imp fun ω2 _ ⟨z, k, e1, e2, h1, h2, h3, h4, h5, f⟩ v w σ H Q s o1 o2 q => by
    subst e1; subst e2
    cases str_of o1; cases int_of o2
    exact ⟨z, k, rfl, rfl, h1, h2, h3, h4, h5, q ω2 _ _ H f s (Kp.refl _ _) (Rp.str _)⟩)
end DL

namespace DL
open PySem PySem.Spec L2
/-- a tuple of the module's own top whose items are flat -/
inductive KRel (K : PySem.W.Frag) : Value → PyData → Prop
  | non : KRel K .none .none
  | bl (b : Bool) : KRel K (.bool b) (.bool b)
  | int (i : Int) (t : Tok) : KRel K (.int i t) (.int i)
  | str (x : Str) (t : Tok) : KRel K (.str x t) (.str x)
inductive KRels (K : PySem.W.Frag) : List Value → List PyData → Prop
  | nil : KRels K [] []
  | cons {u : Value} {d : PyData} {us : List Value} {ds : List PyData} : KRel K u d → KRels K us ds → KRels K (u :: us) (d :: ds)
theorem KRels.rp {K : PySem.W.Frag} (H : Hp) : ∀ {us : List Value} {ds : List PyData}, KRels K us ds → ∃ vs, Vals vs us ∧ RpA K H vs ds
  | _, _, .nil => ⟨[], .nil, .nil⟩
  | _, _, .cons h r => by
    obtain ⟨vs, h1, h2⟩ := KRels.rp H r
    cases h with
    | non => exact ⟨.non :: vs, .cons rfl h1, .cons .non h2⟩
    | bl b => exact ⟨.bl b :: vs, .cons rfl h1, .cons (.bl b) h2⟩
    | int i t => exact ⟨.int i :: vs, .cons ⟨t, rfl⟩ h1, .cons (.int i) h2⟩
    | str x t => exact ⟨.str x :: vs, .cons ⟨t, rfl⟩ h1, .cons (.str x) h2⟩
theorem KRels.len {K : PySem.W.Frag} : ∀ {us : List Value} {ds : List PyData}, KRels K us ds → us.length = ds.length
  | _, _, .nil => rfl
  | _, _, .cons _ r => by simp [KRels.len r]
/-- what a name of the top holds: a datum that stands for ever -/
def CD (K : PySem.W.Frag) (mg : Str → Option Value) (x : Str) (d : PyData) : Prop := ∃ u v, mg x = some u ∧ RelV v u ∧ ∀ H, Rp K H v d
theorem cd_int {K : PySem.W.Frag} {mg : Str → Option Value} {h : Heap} {x : Str} {i : Int} {t : Tok} (X : K.In h) (G : h.Ns mainGlobals mg) (a : PySem.W.nsIn K mainGlobals x = some (some (.int i t))) : CD K mg x (.int i) :=
  ⟨_, .int i, PySem.W.mg_of X G a, ⟨t, rfl⟩, fun H => .int i⟩
theorem cd_tup {K : PySem.W.Frag} {mg : Str → Option Value} {h : Heap} {x : Str} {a : Addr} {dd : Option Addr} {us : List Value} {n : Nat} {sl : Array (Option Value)} {ds : List PyData} (X : K.In h) (G : h.Ns mainGlobals mg) (e : PySem.W.nsIn K mainGlobals x = some (some (.ref a)))
    (l : K.lookup a = some ⟨.type "tuple", dd, .seq us.toArray n, sl⟩) (r : KRels K us ds) (z : ds.length ≤ 1000 := by decide) : CD K mg x (.tuple ds) :=
  ⟨_, .ref a, PySem.W.mg_of X G e, rfl, fun H => by
    obtain ⟨vs, h1, h2⟩ := r.rp H
    exact .tup (.inr ⟨_, us.toArray, n, l, rfl, rfl, by rw [List.size_toArray, r.len]; exact sz1000 z, by simpa using h1⟩) h2⟩
theorem n_const {X : Cx} {ω : Ow} {δ : Env} {Φ : Ow → Cell → Prop} {pos : Pos} {x : Str} {d : PyData} (c : CD X.K X.mg x d) (h : Φ ω (.dat d)) (hg : Gl X x := by rfl) (hdb : (x == ("__debug__" : Str)) = false := by decide) : N X ω δ (.Name x pos) Φ := by
  obtain ⟨u, v, h1, h2, h3⟩ := c
  exact n_globD h1 h2 h3 h hg hdb
theorem law_binds {K : PySem.W.Frag} {st : Stmt} {f : Addr} {fd : FuncData} (F : Fun K "law" "law" st f fd) (h : ∀ (kV doc pm : Value) (an : Option Addr) (cdv ct u : Value), bindArgs (PySem.W.fnOf "law" "law" (defArgs st) (defBody st) (defScope st) .none kV doc pm an cdv ct) ⟨[u], []⟩ = pure [(("script" : Str), u)]) :
    ∀ (s : Shared) (u : Value), BindsTo s fd ⟨[u], []⟩ [(("script" : Str), u)] := by
  obtain ⟨oc, od, kV, doc, pm, an, cdv, ct, osl, rfl, lk, hcd⟩ := F.ex
  exact fun s u => .of_eq (h _ _ _ _ _ _ u)
end DL

namespace DL
open PySem PySem.Spec L2
/-! ## the bag of draws: contracts of a law's own helpers -/
def bagI (its : List PyData) : Prop := ∃ (a b c : Int) (ns : List Int), its = [.int a, .int b, .int c, .list (ns.map .int)] ∧ 0 ≤ a ∧ 0 ≤ b ∧ b < 2147483647 ∧ 0 ≤ c ∧ ns.length ≤ 63 ∧ ∀ x ∈ ns, 0 ≤ x
def bagP : OwnP := sealP bagI
def bagC : Con := fun cs ω Φ => ∃ ns : List Int, cs = [.scr ns] ∧ ∀ p, Φ ((p, bagP) :: ω) (.raw (.ref p))
def takeC : Con := fun cs ω Φ => ∃ (n : Nat) (p : Addr) (m : Int), cs = [.raw (.ref p), .dat (.int m)] ∧ ω[n]? = some (p, bagP) ∧ 1 ≤ m ∧ m < 1000000000 ∧ ∀ v : Int, 0 ≤ v → v < m → Φ ω (.dat (.int v))
def oneC : Con := fun cs ω Φ => ∃ (n : Nat) (p : Addr) (ds : List PyData), cs = [.raw (.ref p), .dat (.list ds)] ∧ ω[n]? = some (p, bagP) ∧ ds ≠ [] ∧ ds.length ≤ 1000 ∧ ∀ d ∈ ds, Φ ω (.dat d)
def alikeC : Con := fun cs ω Φ => ∃ d, cs = [.dat d, .dat d] ∧ SeqAt.shaped d = true ∧ Shows d ∧ Φ ω (.dat (.bool true))
theorem n_seal {X : Cx} {ω : Ow} {δ : Env} {e : Expr} {Φ : Ow → Cell → Prop} (I : List PyData → Prop) (h : N X ω δ e fun ω1 c => ∃ p its ω0, ω1 = (p, lstP its) :: ω0 ∧ I its ∧ Φ ((p, sealP I) :: ω0) c) : N X ω δ e Φ := fun σ H Q s q =>
  h σ H Q s fun ω1 c v H1 ⟨p, its, ω0, e1, hI, f⟩ s1 k1 o1 => by
    subst e1
    exact q _ c v H1 f ⟨s1.env, s1.own.swap (n := 0) (p := p) (P := lstP its) (P' := sealP I) rfl fun o _ ho => ⟨its, hI, ho⟩⟩ k1 o1
theorem canLay_ints (ns : List Int) : PyData.canLayAll0 (ns.map .int) = true := by
  induction ns with
  | nil => rfl
  | cons n r ih => simp [PyData.canLayAll0, PyData.canLay0, ih]
theorem abs_nn (i : Int) : 0 ≤ (if i < 0 then -i else i) := by split <;> omega
theorem atI_int {ns : List Int} {k : Int} {d : PyData} (h : atI (ns.map PyData.int) k = some d) : ∃ x ∈ ns, d = .int x := by
  obtain ⟨j, _, h2⟩ := atI_ix h
  rw [List.getElem?_map] at h2
  cases q : ns[j]? with
  | none => rw [q] at h2; cases h2
  | some x => rw [q] at h2; exact ⟨x, List.mem_of_getElem? q, (Option.some.inj h2).symm⟩
theorem atI_in {α : Type} {ds : List α} {k : Int} (h0 : 0 ≤ k) (h1 : k < (ds.length : Int)) : ∃ d, atI ds k = some d ∧ ds[k.toNat]? = some d := by
  have h2 : k.toNat < ds.length := by omega
  refine ⟨ds[k.toNat], ?_, List.getElem?_eq_getElem h2⟩
  unfold atI ixN
  rw [if_pos h0, if_pos (by omega)]
  exact List.getElem?_eq_getElem h2
theorem eqv_ints (a b : Int) : PyData.eqv (.int a) (.int b) = (a == b) := by simp [PyData.eqv]
theorem fmod_nn {a b : Int} (h : 0 < b) : 0 ≤ a.fmod b ∧ a.fmod b < b := by
  rw [Int.fmod_eq_emod_of_nonneg _ (by omega)]
  exact ⟨Int.emod_nonneg _ (by omega), Int.emod_lt_of_pos _ h⟩
theorem fdiv_nn {a b : Int} (h : 0 < b) (h0 : 0 ≤ a) : 0 ≤ a.fdiv b := by
  rw [Int.fdiv_eq_ediv_of_nonneg _ (by omega)]
  exact Int.ediv_nonneg h0 (by omega)
end DL

namespace DL
open PySem PySem.Spec L2
/-! ## comparisons as tests -/
section
variable {X : Cx} {ω : Ow} {δ : Env} {a b c : Expr} {Φ : Ow → Bool → Prop} {pos : Pos}
theorem nt_cop {op : CmpOp} {r : R2} (ho : OpR X (compareOp op) r) (hm : behindInMarks op b = false) (h : N X ω δ a fun ω1 c1 => N X ω1 δ b fun ω2 c2 => Op2 X r ω2 δ c1 c2 fun ω3 c => isB ω3 (fun ω4 k => Φ ω4 k) c) : NT X ω δ (.Compare a [op] [b] pos) Φ := fun σ H Q s q =>
  WT.of (pt_cmpR ho (WE.pe X a) (WE.pe X b) hm) (h σ H _ s fun ω1 c1 v1 H1 f1 s1 k1 o1 => f1 σ H1 _ s1 fun ω2 c2 v2 H2 f2 s2 k2 o2 => f2 v1 v2 σ H2 _ s2 (o1.mono k2) o2 fun ω3 c3 v3 H3 ⟨k, e3, f3⟩ s3 k3 o3 => by
    subst e3
    cases bool_of o3
    exact ⟨k, rfl, q ω3 k H3 f3 s3 (k1.trans (k2.trans k3))⟩)
theorem nt_lt (h : N X ω δ a fun ω1 c1 => N X ω1 δ b fun ω2 c2 => isI2 ω2 c1 c2 fun i j => Φ ω2 (decide (i < j))) : NT X ω δ (.Compare a [.Lt] [b] pos) Φ :=
  nt_cop op_lt (nomark _) (h.imp fun _ _ h1 => h1.imp fun _ _ ⟨i, j, e1, e2, f⟩ => op2_I0 (G := fun i j => .bool (decide (i < j))) (fun _ _ i j => .bl _) ⟨i, j, e1, e2, _, rfl, f⟩)
theorem nt_le (h : N X ω δ a fun ω1 c1 => N X ω1 δ b fun ω2 c2 => isI2 ω2 c1 c2 fun i j => Φ ω2 (decide (i ≤ j))) : NT X ω δ (.Compare a [.LtE] [b] pos) Φ :=
  nt_cop op_le (nomark _) (h.imp fun _ _ h1 => h1.imp fun _ _ ⟨i, j, e1, e2, f⟩ => op2_I0 (G := fun i j => .bool (decide (i ≤ j))) (fun _ _ i j => .bl _) ⟨i, j, e1, e2, _, rfl, f⟩)
theorem nt_gt (h : N X ω δ a fun ω1 c1 => N X ω1 δ b fun ω2 c2 => isI2 ω2 c1 c2 fun i j => Φ ω2 (decide (j < i))) : NT X ω δ (.Compare a [.Gt] [b] pos) Φ :=
  nt_cop op_gt (nomark _) (h.imp fun _ _ h1 => h1.imp fun _ _ ⟨i, j, e1, e2, f⟩ => op2_I0 (G := fun i j => .bool (decide (j < i))) (fun _ _ i j => .bl _) ⟨i, j, e1, e2, _, rfl, f⟩)
theorem nt_ge (h : N X ω δ a fun ω1 c1 => N X ω1 δ b fun ω2 c2 => isI2 ω2 c1 c2 fun i j => Φ ω2 (decide (j ≤ i))) : NT X ω δ (.Compare a [.GtE] [b] pos) Φ :=
  nt_cop op_ge (nomark _) (h.imp fun _ _ h1 => h1.imp fun _ _ ⟨i, j, e1, e2, f⟩ => op2_I0 (G := fun i j => .bool (decide (j ≤ i))) (fun _ _ i j => .bl _) ⟨i, j, e1, e2, _, rfl, f⟩)
theorem nt_eq (hu : X.A.units + 64 < cLine) (h : N X ω δ a fun ω1 c1 => N X ω1 δ b fun ω2 c2 => ∃ d1 d2, c1 = .dat d1 ∧ c2 = .dat d2 ∧ SeqAt.shaped d1 = true ∧ SeqAt.shaped d2 = true ∧ Φ ω2 (PyData.eqv d1 d2)) : NT X ω δ (.Compare a [.Eq] [b] pos) Φ :=
  nt_cop (op_eqD hu) (nomark _) (h.imp fun _ _ h1 => h1.imp fun _ _ ⟨d1, d2, e1, e2, g1, g2, f⟩ => op2_eq ⟨d1, d2, e1, e2, g1, g2, _, rfl, f⟩)
theorem nt_ne (hu : X.A.units + 64 < cLine) (h : N X ω δ a fun ω1 c1 => N X ω1 δ b fun ω2 c2 => ∃ d1 d2, c1 = .dat d1 ∧ c2 = .dat d2 ∧ SeqAt.shaped d1 = true ∧ SeqAt.shaped d2 = true ∧ Φ ω2 (!PyData.eqv d1 d2)) : NT X ω δ (.Compare a [.NotEq] [b] pos) Φ :=
  nt_cop (op_neD hu) (nomark _) (h.imp fun _ _ h1 => h1.imp fun _ _ ⟨d1, d2, e1, e2, g1, g2, f⟩ => op2_ne ⟨d1, d2, e1, e2, g1, g2, _, rfl, f⟩)
theorem nt_in (hm : behindInMarks .In b = false) (h : N X ω δ a fun ω1 c1 => N X ω1 δ b fun ω2 c2 => ∃ d ds, c1 = .dat d ∧ (c2 = .dat (.tuple ds) ∨ c2 = .dat (.list ds)) ∧ flatD d = true ∧ ds.all flatD = true ∧ Φ ω2 (inD d ds)) : NT X ω δ (.Compare a [.In] [b] pos) Φ :=
  nt_cop op_in_seq hm (h.imp fun _ _ h1 => h1.imp fun _ _ ⟨d, ds, e1, e2, g1, g2, f⟩ => op2_in ⟨d, ds, e1, e2, g1, g2, _, rfl, f⟩)
theorem nt_isN (h : N X ω δ a fun ω1 c1 => ∃ d, c1 = .dat d ∧ Φ ω1 (isNone d)) {j p2} : NT X ω δ (.Compare a [.Is] [.Constant .none j p2] pos) Φ := fun σ H Q s q =>
  WT.of (pt_cmp (pc_isN (WE.pe X a))) (h σ H _ s fun ω1 c v H1 ⟨d, e1, f1⟩ s1 k1 o1 => by
    subst e1
    exact ⟨_, rfl, by rw [rp_non o1]; exact q ω1 _ H1 f1 s1 k1⟩)
theorem nt_notN (h : N X ω δ a fun ω1 c1 => ∃ d, c1 = .dat d ∧ Φ ω1 (!isNone d)) {j p2} : NT X ω δ (.Compare a [.IsNot] [.Constant .none j p2] pos) Φ := fun σ H Q s q =>
  WT.of (pt_cmp (pc_notN (WE.pe X a))) (h σ H _ s fun ω1 c v H1 ⟨d, e1, f1⟩ s1 k1 o1 => by
    subst e1
    exact ⟨_, rfl, by rw [rp_non o1]; exact q ω1 _ H1 f1 s1 k1⟩)
theorem nt_chainI {op op' : CmpOp} {g g' : Int → Int → Bool} (ho : OpR X (compareOp op) (rI0 fun i j => .bl (g i j))) (ho' : OpR X (compareOp op') (rI0 fun i j => .bl (g' i j)))
    (h : N X ω δ a fun ω1 c1 => N X ω1 δ b fun ω2 c2 => ∃ i j, c1 = .dat (.int i) ∧ c2 = .dat (.int j) ∧ if g i j = true then N X ω2 δ c (fun ω3 c3 => ∃ k, c3 = .dat (.int k) ∧ Φ ω3 (g' j k)) else Φ ω2 false)
    (hl : lastMarks [op, op'] [b, c] = false := by rfl) : NT X ω δ (.Compare a [op, op'] [b, c] pos) Φ := fun σ H Q s q =>
  WT.of (pt_chain ho ho' (WE.pe X a) (WE.pe X b) (WE.pe X c) hl) (h σ H _ s fun ω1 c1 v1 H1 f1 s1 k1 o1 => f1 σ H1 _ s1 fun ω2 c2 v2 H2 ⟨i, j, e1, e2, f2⟩ s2 k2 o2 => by
    subst e1; subst e2
    cases int_of o1; cases int_of o2
    refine ⟨i, j, rfl, rfl, g i j, rfl, ?_⟩
    cases hg : g i j with
    | true =>
      rw [hg] at f2
      exact f2 σ H2 _ s2 fun ω3 c3 v3 H3 ⟨k, e3, f3⟩ s3 k3 o3 => by
        subst e3
        cases int_of o3
        exact ⟨j, k, rfl, rfl, _, rfl, q ω3 _ H3 f3 s3 (k1.trans (k2.trans k3))⟩
    | false =>
      rw [hg] at f2
      exact ⟨false, rfl, q ω2 _ H2 f2 s2 (k1.trans k2)⟩)
end
end DL

namespace DL
open PySem PySem.Spec L2
/-! ## what is shown -/
def nestD : Nat → PyData
  | 0 => .list []
  | n + 1 => .list [nestD n]
def nestC : Con := fun cs ω Φ => ∃ n : Nat, cs = [.dat (.int (n : Int))] ∧ n ≤ 40 ∧ Φ ω (.dat (nestD n))
/-- decided once by the kernel -/
def showsB (d : PyData) : Bool := d.showable && decide (d.depth ≤ 80) && decide (d.shown.length ≤ sizeLine)
theorem shows_of {d : PyData} (h : showsB d = true) : Shows d := by
  unfold showsB at h
  simp only [Bool.and_eq_true, decide_eq_true_eq] at h
  exact ⟨h.1.1, h.1.2, h.2⟩
/-! ## texts compared -/
def isS2 (ω : Ow) (c1 c2 : Cell) (P : Str → Str → Prop) : Prop := ∃ i j, c1 = .dat (.str i) ∧ c2 = .dat (.str j) ∧ P i j
section
variable {X : Cx} {ω : Ow} {δ : Env} {a b : Expr} {pos : Pos}
theorem op2_eqS {Φ : Ow → Cell → Prop} {c1 c2 : Cell} (h : isS2 ω c1 c2 fun i j => Φ ω (.dat (.bool (decide (i = j))))) : Op2 X rEq ω δ c1 c2 Φ := fun x y σ H Q s o1 o2 q => by
  obtain ⟨i, j, e1, e2, f⟩ := h
  subst e1; subst e2
  cases str_of o1; cases str_of o2
  refine ⟨rfl, ?_⟩
  rw [show decide (V.str i = V.str j) = decide (i = j) by rw [dec_str]; exact (Bool.beq_eq_decide_eq i j)]
  exact q ω _ _ H f s (Kp.refl _ _) (Rp.bl _)
theorem op2_neS {Φ : Ow → Cell → Prop} {c1 c2 : Cell} (h : isS2 ω c1 c2 fun i j => Φ ω (.dat (.bool (!decide (i = j))))) : Op2 X rNe ω δ c1 c2 Φ := fun x y σ H Q s o1 o2 q => by
  obtain ⟨i, j, e1, e2, f⟩ := h
  subst e1; subst e2
  cases str_of o1; cases str_of o2
  refine ⟨rfl, ?_⟩
  rw [show decide (V.str i = V.str j) = decide (i = j) by rw [dec_str]; exact (Bool.beq_eq_decide_eq i j)]
  exact q ω _ _ H f s (Kp.refl _ _) (Rp.bl _)
theorem n_eqS {Φ : Ow → Cell → Prop} (h : N X ω δ a fun ω1 c1 => N X ω1 δ b fun ω2 c2 => isS2 ω2 c1 c2 fun i j => Φ ω2 (.dat (.bool (decide (i = j))))) : N X ω δ (.Compare a [.Eq] [b] pos) Φ :=
  n_cop op_eq (nomark _) (h.imp fun _ _ h1 => h1.imp fun _ _ h2 => op2_eqS h2)
theorem n_neS {Φ : Ow → Cell → Prop} (h : N X ω δ a fun ω1 c1 => N X ω1 δ b fun ω2 c2 => isS2 ω2 c1 c2 fun i j => Φ ω2 (.dat (.bool (!decide (i = j))))) : N X ω δ (.Compare a [.NotEq] [b] pos) Φ :=
  n_cop op_ne (nomark _) (h.imp fun _ _ h1 => h1.imp fun _ _ h2 => op2_neS h2)
theorem nt_eqS {Φ : Ow → Bool → Prop} (h : N X ω δ a fun ω1 c1 => N X ω1 δ b fun ω2 c2 => isS2 ω2 c1 c2 fun i j => Φ ω2 (decide (i = j))) : NT X ω δ (.Compare a [.Eq] [b] pos) Φ :=
  nt_cop op_eq (nomark _) (h.imp fun _ _ h1 => h1.imp fun _ _ ⟨i, j, e1, e2, f⟩ => op2_eqS ⟨i, j, e1, e2, _, rfl, f⟩)
theorem nt_neS {Φ : Ow → Bool → Prop} (h : N X ω δ a fun ω1 c1 => N X ω1 δ b fun ω2 c2 => isS2 ω2 c1 c2 fun i j => Φ ω2 (!decide (i = j))) : NT X ω δ (.Compare a [.NotEq] [b] pos) Φ :=
  nt_cop op_ne (nomark _) (h.imp fun _ _ h1 => h1.imp fun _ _ ⟨i, j, e1, e2, f⟩ => op2_neS ⟨i, j, e1, e2, _, rfl, f⟩)
end
end DL

namespace DL
open PySem PySem.Spec L2
def undat : List Cell → Option (List PyData)
  | [] => some []
  | .dat d :: r => match undat r with
    | some ds => some (d :: ds)
    | none => none
  | _ => none
theorem undat_dats : ∀ {cs : List Cell} {ds : List PyData}, undat cs = some ds → cs = dats ds
  | [], _, h => by cases h; rfl
  | .dat d :: r, ds, h => by
    unfold undat at h
    cases q : undat r with
    | none => rw [q] at h; cases h
    | some es => rw [q] at h; cases h; rw [undat_dats q]; rfl
  | .raw _ :: _, _, h => by cases h
  | .scr _ :: _, _, h => by cases h
section
variable {X : Cx} {ω : Ow} {δ : Env} {k v : Expr} {es : List Expr} {Φ : Ow → Cell → Prop} {pos : Pos}
theorem n_tupU {x1} (h : NA X ω δ es fun ω1 cs => ∃ ds, undat cs = some ds ∧ Nat.ble ds.length 1000 = true ∧ Φ ω1 (.dat (.tuple ds))) : N X ω δ (.Tuple es x1 pos) Φ :=
  n_tup fun σ H Q s q => h σ H Q s fun ω1 cs vs H1 ⟨ds, e1, z, f⟩ => q ω1 cs vs H1 ⟨ds, undat_dats e1, Nat.le_of_ble_eq_true z, f⟩
theorem n_lstU (h : NA X ω δ es fun ω1 cs => ∃ ds, undat cs = some ds ∧ Nat.ble ds.length 1000 = true ∧ Φ ω1 (.dat (.list ds))) : N X ω δ (.List es pos) Φ :=
  n_lst fun σ H Q s q => h σ H Q s fun ω1 cs vs H1 ⟨ds, e1, z, f⟩ => q ω1 cs vs H1 ⟨ds, undat_dats e1, Nat.le_of_ble_eq_true z, f⟩
theorem n_lstOU (h : NA X ω δ es fun ω1 cs => ∃ ds, undat cs = some ds ∧ Nat.ble ds.length 1000 = true ∧ ∀ p, Φ ((p, lstP ds) :: ω1) (.raw (.ref p))) : N X ω δ (.List es pos) Φ :=
  n_lstO fun σ H Q s q => h σ H Q s fun ω1 cs vs H1 ⟨ds, e1, z, f⟩ => q ω1 cs vs H1 ⟨ds, undat_dats e1, Nat.le_of_ble_eq_true z, f⟩
theorem new_dic {K : PySem.W.Frag} {H : Hp} {p : Addr} {kvs : List (Key × V)} {ds : List (PyData × PyData)} (h : OwnOk K ω H) (hp : H p = none) (r : RpK K (hid (dom ω) H) kvs ds) : Rp K (hid (dom ω) (upd H p (.dK kvs))) (.ref p) (.dict ds) :=
  .dic (by rw [hid_out (h.notin hp), upd_same]) (r.mono (kp_new h hp))
theorem n_dict0 (h : Φ ω (.dat (.dict []))) : N X ω δ (.Dict [] [] pos) Φ :=
  n_lift pe_dnewK fun σ H Q s q p hp => q ω _ _ _ h (s.new hp) (kp_new s.own hp) (new_dic s.own hp .nil)
def dkP : OwnP := ⟨fun _ _ o => o = .dK [], fun _ _ _ _ _ h => h⟩
theorem n_dict1 (h : ∀ p, N X ((p, dkP) :: ω) δ k fun ω1 c1 => ∃ (ω' : Ow) (y : Key), ω1 = (p, dkP) :: ω' ∧ c1 = .dat (keyD y) ∧ N X ω1 δ v fun ω2 c2 => ∃ (ω3 : Ow) (d : PyData), ω2 = (p, dkP) :: ω3 ∧ c2 = .dat d ∧ Φ ω3 (.dat (.dict [(keyD y, d)]))) : N X ω δ (.Dict [some k] [v] pos) Φ :=
  n_lift (pe_disp (pps_cons (WE.pe X k) (WE.pe X v) pps_nil) rfl rfl (fun z => by cases z) (Nat.le_of_ble_eq_true rfl)) fun σ H Q s q p hp => by
    have k0 := (s.own.cons (P := dkP) hp rfl).2
    refine h p σ _ _ (s.cons (P := dkP) hp rfl) fun ω1 c1 v1 H1 ⟨ω', y, e1, e2, f1⟩ s1 k1 o1 => ?_
    subst e1; subst e2
    refine f1 σ H1 _ s1 fun ω2 c2 v2 H2 ⟨ω3, d, e3, e4, f2⟩ s2 k2 o2 => ?_
    subst e3; subst e4
    have hv1 : v1 = kV y := by cases y <;> (cases o1; rfl)
    subst hv1
    obtain ⟨o, h1, h2⟩ := s2.own.at_ p _ List.mem_cons_self
    have h2' : o = .dK [] := h2
    subst h2'
    refine ⟨h1, [(y, v2)], rfl, Nat.le_of_ble_eq_true rfl, ?_⟩
    have nd := List.nodup_cons.mp s2.own.nd
    have kk : Kp (dom ((p, dkP) :: ω3)) H2 (dom ω3) (upd H2 p (.dK (mergeK [] [(y, v2)]))) := (kp_upd List.mem_cons_self).trans (kp_drop (P := dkP))
    have oo : OwnOk X.K ω3 (upd H2 p (.dK (mergeK [] [(y, v2)]))) := by
      refine ⟨nd.2, fun a R z => ?_⟩
      obtain ⟨u, g1, g2⟩ := s2.own.at_ a R (List.mem_cons_of_mem _ z)
      have hne : a ≠ p := fun e => nd.1 (List.mem_map.mpr ⟨(a, R), z, e⟩)
      exact ⟨u, by rw [upd_ne hne]; exact g1, R.mono _ _ _ _ kk g2⟩
    refine q ω3 _ _ _ f2 ⟨s2.env.mono kk, oo⟩ (k0.trans (k1.trans (k2.trans kk))) ?_
    exact .dic (by rw [hid_out nd.1, upd_same]; rfl) (.cons (o2.mono (c := .dat d) kk) .nil)
end
end DL

namespace DL
open PySem PySem.Spec L2
/-! ## a bound of what is shown that is soon reckoned -/
mutual
def lenB : PyData → Nat
  | .none => 4
  | .bool _ => 5
  | .int i => i.natAbs.log2 + 3
  | .str x => if (x.cps.toList.all fun c => decide (c < 16 ^ 8)) = true then 10 * x.length + 2 else (reprText x).length
  | .list xs => 2 + lenA xs
  | .tuple xs => 4 + lenA xs
  | .dict kvs => 2 + lenK kvs
def lenA : List PyData → Nat
  | [] => 0
  | x :: r => lenB x + 2 + lenA r
def lenK : List (PyData × PyData) → Nat
  | [] => 0
  | (k, v) :: r => lenB k + lenB v + 4 + lenK r
end
theorem textFrom_le : ∀ (ts : List Str) (k : Nat) (acc : Str), (textFrom k acc ts).length ≤ acc.length + piled ts
  | [], k, acc => Nat.le_refl _
  | t :: r, k, acc => by
    have h := textFrom_le r (k + 1) (acc ++ (if k > 0 then ", " else "" : String) ++ t)
    rw [Str.length_append, Str.length_append] at h
    have h2 : (Str.ofString (if k > 0 then ", " else "" : String)).length ≤ 2 := by split <;> decide
    rw [piled_cons]
    show (textFrom (k + 1) (acc ++ (if k > 0 then ", " else "" : String) ++ t) r).length ≤ _
    omega
theorem listText_le (ts : List Str) : (listText ts).length ≤ 2 + piled ts := by
  unfold listText
  rw [Str.length_append]
  have h := textFrom_le ts 0 "["
  have e1 : (Str.ofString "[").length = 1 := by decide
  have e2 : (Str.ofString "]").length = 1 := by decide
  omega
theorem tupleText_le (ts : List Str) : (tupleText ts).length ≤ 4 + piled ts := by
  unfold tupleText
  rw [Str.length_append, Str.length_append]
  have e1 : (Str.ofString "(").length = 1 := by decide
  have e2 : (Str.ofString (if ts.length == 1 then ",)" else ")" : String)).length ≤ 2 := by split <;> decide
  have e3 : (Str.join ", " ts).length ≤ piled ts := by
    cases ts with
    | nil => decide
    | cons t r => have := join_length_add (t :: r) (by simp); omega
  omega
theorem dictText_le (ts : List Str) : (dictText ts).length ≤ 2 + piled ts := by
  unfold dictText
  rw [Str.length_append, Str.length_append]
  have e1 : (Str.ofString "{").length = 1 := by decide
  have e2 : (Str.ofString "}").length = 1 := by decide
  have e3 : (Str.join ", " ts).length ≤ piled ts := by
    cases ts with
    | nil => decide
    | cons t r => have := join_length_add (t :: r) (by simp); omega
  omega
theorem int_le (i : Int) : (Str.ofString (toString i)).length ≤ i.natAbs.log2 + 3 := by
  rw [PySem.ofString_length]
  have := PySem.int_text_length_le (a := i) (k := i.natAbs.log2 + 1) (by omega) (by omega)
  omega
mutual
theorem shown_le : ∀ d : PyData, d.shown.length ≤ lenB d
  | .none => by decide
  | .bool b => by cases b <;> decide
  | .int i => int_le i
  | .str x => by
    show (reprText x).length ≤ (if (x.cps.toList.all fun c => decide (c < 16 ^ 8)) = true then 10 * x.length + 2 else (reprText x).length)
    split
    · rename_i h
      exact PySem.StrLaws.reprText_len x fun c hc => of_decide_eq_true (List.all_eq_true.mp h c hc)
    · exact Nat.le_refl _
  | .list xs => by
    have h1 := listText_le (PyData.shownAll xs)
    have h2 := shownAll_le xs
    show (listText (PyData.shownAll xs)).length ≤ 2 + lenA xs
    omega
  | .tuple xs => by
    have h1 := tupleText_le (PyData.shownAll xs)
    have h2 := shownAll_le xs
    show (tupleText (PyData.shownAll xs)).length ≤ 4 + lenA xs
    omega
  | .dict kvs => by
    have h1 := dictText_le (PyData.shownKv kvs)
    have h2 := shownKv_le kvs
    show (dictText (PyData.shownKv kvs)).length ≤ 2 + lenK kvs
    omega
theorem shownAll_le : ∀ ds : List PyData, piled (PyData.shownAll ds) ≤ lenA ds
  | [] => Nat.le_refl _
  | d :: r => by
    have h1 := shown_le d
    have h2 := shownAll_le r
    show piled (d.shown :: PyData.shownAll r) ≤ lenB d + 2 + lenA r
    rw [piled_cons]
    omega
theorem shownKv_le : ∀ ds : List (PyData × PyData), piled (PyData.shownKv ds) ≤ lenK ds
  | [] => Nat.le_refl _
  | (k, v) :: r => by
    have h1 := shown_le k
    have h2 := shown_le v
    have h3 := shownKv_le r
    show piled ((k.shown ++ ": " ++ v.shown) :: PyData.shownKv r) ≤ lenB k + lenB v + 4 + lenK r
    rw [piled_cons, Str.length_append, Str.length_append]
    have e2 : (Str.ofString ": ").length = 2 := by decide
    omega
end
/-- decided once by the kernel -/
def showsC (n : Nat) (d : PyData) : Bool := d.showable && decide (d.depth ≤ 60) && decide (lenB d ≤ n)
/-- d is shown in at most n signs, by a bound that adds up -/
structure ShowsN (n : Nat) (d : PyData) : Prop where
  ok : d.showable = true
  dp : d.depth ≤ 60
  sz : lenB d ≤ n
theorem showsN_of {n : Nat} {d : PyData} (h : showsC n d = true) : ShowsN n d := by
  unfold showsC at h
  simp only [Bool.and_eq_true, decide_eq_true_eq] at h
  exact ⟨h.1.1, h.1.2, h.2⟩
theorem ShowsN.shows {n : Nat} {d : PyData} (h : ShowsN n d) (hn : n ≤ 1000000 := by decide) : Shows d :=
  ⟨h.ok, Nat.le_trans h.dp (by decide), Nat.le_trans (shown_le d) (Nat.le_trans h.sz (Nat.le_trans hn (by decide)))⟩
theorem ShowsN.mono {n m : Nat} {d : PyData} (h : ShowsN n d) (l : n ≤ m) : ShowsN m d := ⟨h.ok, h.dp, Nat.le_trans h.sz l⟩
theorem shows_int {i : Int} {k : Nat} (h : i.natAbs.log2 ≤ k) (hk : k ≤ 1900 := by decide) : ShowsN (k + 3) (.int i) := ⟨by simp [PyData.showable]; omega, Nat.zero_le _, Nat.add_le_add_right h 3⟩
theorem shows_bool (b : Bool) : ShowsN 5 (.bool b) := ⟨rfl, Nat.zero_le _, Nat.le_refl _⟩
/-- a list of at most m things, each so shown, each of depth at most p -/
theorem shows_all {n p : Nat} : ∀ {ds : List PyData}, (∀ d ∈ ds, ShowsN n d ∧ d.depth ≤ p) → PyData.showableAll ds = true ∧ PyData.depthAll ds ≤ p ∧ lenA ds ≤ ds.length * (n + 2)
  | [], _ => ⟨rfl, Nat.zero_le _, Nat.zero_le _⟩
  | d :: r, h => by
    obtain ⟨h1, h2, h3⟩ := shows_all (ds := r) fun e he => h e (List.mem_cons_of_mem _ he)
    obtain ⟨g1, g2⟩ := h d List.mem_cons_self
    refine ⟨?_, ?_, ?_⟩
    · show (d.showable && PyData.showableAll r) = true
      rw [g1.ok, h1]; rfl
    · simp only [PyData.depthAll]
      exact Nat.max_le.mpr ⟨g2, h2⟩
    · show lenB d + 2 + lenA r ≤ (r.length + 1) * (n + 2)
      rw [Nat.add_mul]
      have := g1.sz
      omega
theorem shows_list {n p : Nat} {ds : List PyData} (h : ∀ d ∈ ds, ShowsN n d ∧ d.depth ≤ p) (hp : p < 60 := by decide) : ShowsN (2 + ds.length * (n + 2)) (.list ds) := by
  obtain ⟨h1, h2, h3⟩ := shows_all h
  refine ⟨h1, ?_, Nat.add_le_add_left h3 2⟩
  simp only [PyData.depth]
  omega
theorem shows_tuple {n p : Nat} {ds : List PyData} (h : ∀ d ∈ ds, ShowsN n d ∧ d.depth ≤ p) (hp : p < 60 := by decide) : ShowsN (4 + ds.length * (n + 2)) (.tuple ds) := by
  obtain ⟨h1, h2, h3⟩ := shows_all h
  refine ⟨h1, ?_, Nat.add_le_add_left h3 4⟩
  simp only [PyData.depth]
  omega
theorem rep_list (z : Array Nat) : ∀ (n : Nat) (acc : Array Nat), ((List.replicate n z).foldl (· ++ ·) acc).toList = acc.toList ++ (List.replicate n z.toList).flatten
  | 0, acc => by simp
  | n + 1, acc => by
    rw [List.replicate_succ, List.foldl_cons, rep_list z n, List.replicate_succ, List.flatten_cons, Array.toList_append, List.append_assoc]
theorem repS_list (z : Str) (k : Int) : (repS z k).cps.toList = (List.replicate k.toNat z.cps.toList).flatten := by
  unfold repS
  rw [rep_list]
  rfl
theorem repS_len (z : Str) (k : Int) : (repS z k).length = z.length * k.toNat := by
  show (repS z k).cps.size = z.cps.size * k.toNat
  rw [← Array.length_toList, repS_list, List.length_flatten, List.map_replicate, List.sum_replicate_nat, Array.length_toList, Nat.mul_comm]
theorem shows_rep {z : Str} {k : Int} (h : (z.cps.toList.all fun c => decide (c < 16 ^ 8)) = true) : ShowsN (10 * (z.length * k.toNat) + 2) (.str (repS z k)) := by
  refine ⟨rfl, Nat.zero_le _, ?_⟩
  have e : ((repS z k).cps.toList.all fun c => decide (c < 16 ^ 8)) = true := by
    rw [repS_list, List.all_eq_true]
    intro c hc
    obtain ⟨l, hl, hc⟩ := List.mem_flatten.mp hc
    rw [(List.mem_replicate.mp hl).2] at hc
    exact List.all_eq_true.mp h c hc
  show (if ((repS z k).cps.toList.all fun c => decide (c < 16 ^ 8)) = true then 10 * (repS z k).length + 2 else _) ≤ _
  rw [if_pos e, repS_len]
  exact Nat.le_refl _
/-- 'x' * 900, told by what is shown of it alone -/
theorem n_repX {X : Cx} {ω : Ow} {δ : Env} {a b : Expr} {Φ : Ow → Cell → Prop} {pos : Pos} (h : N X ω δ a fun ω1 c1 => N X ω1 δ b fun ω2 c2 => ∃ z k, c1 = .dat (.str z) ∧ c2 = .dat (.int k) ∧ 2 ≤ k ∧ k ≤ 100000 ∧ 1 ≤ z.length ∧ z.length * k.toNat ≤ 1000000 ∧ (z.cps.toList.all fun c => decide (c < 16 ^ 8)) = true ∧ ∀ y, ShowsN (10 * (z.length * k.toNat) + 2) (.str y) → Φ ω2 (.dat (.str y))) : N X ω δ (.BinOp a .Mult b pos) Φ :=
  n_repS (h.imp fun _ _ h0 => h0.imp fun _ _ ⟨z, k, e1, e2, h1, h2, h3, h4, h5, f⟩ => ⟨z, k, e1, e2, h1, h2, h3, h4, by rw [repS_len]; exact Nat.le_trans h4 (by decide), f _ (shows_rep h5)⟩)
theorem all_app {α : Type} {f : α → Bool} {a b : List α} (h1 : a.all f = true) (h2 : b.all f = true) : (a ++ b).all f = true := by rw [List.all_append, h1, h2]; rfl
theorem all_con {α : Type} {f : α → Bool} {x : α} {b : List α} (h1 : f x = true) (h2 : b.all f = true) : (x :: b).all f = true := by rw [List.all_cons, h1, h2]; rfl
theorem showsC_of {n : Nat} {d : PyData} (h : ShowsN n d) : showsC n d = true := by
  unfold showsC
  rw [h.ok, decide_eq_true h.dp, decide_eq_true h.sz]; rfl
end DL

namespace DL
open PySem PySem.Spec L2
/-- the first owned object is left behind -/
theorem n_drop {X : Cx} {ω : Ow} {δ : DL.Env} {e : Expr} {Φ : Ow → Cell → Prop} (h : N X ω δ e fun ω1 c => ∃ p P ω0, ω1 = (p, P) :: ω0 ∧ Φ ω0 c) : N X ω δ e Φ := fun σ H Q s q =>
  h σ H Q s fun ω1 c v H1 ⟨p, P, ω0, e1, f⟩ s1 k1 o1 => by
    subst e1
    exact q ω0 c v H1 f s1.drop (k1.trans (kp_drop (P := P))) (o1.mono (kp_drop (P := P)))
theorem shaped_mk {d : PyData} (h1 : d.canLay0 = true) (h2 : d.depth ≤ 64) : SeqAt.shaped d = true := by
  unfold SeqAt.shaped
  rw [h1, decide_eq_true h2]; rfl
theorem take_filter {ds : List PyData} {i : Nat} {d : PyData} {f : PyData → Bool} (h : ds[i]? = some d) : (ds.take (i + 1)).filter f = (ds.take i).filter f ++ if f d = true then [d] else [] := by
  rw [List.take_add_one, h, List.filter_append]
  congr 1
  show List.filter f [d] = _
  rw [List.filter_cons]
  split <;> rfl
theorem take_map {ds : List PyData} {i : Nat} {d : PyData} {f : PyData → PyData} (h : ds[i]? = some d) : (ds.take (i + 1)).map f = (ds.take i).map f ++ [f d] := by
  rw [List.take_add_one, h, List.map_append]
  rfl
end DL

namespace K11
open PySem PySem.Spec L2 DL
def top (i : Nat) : Stmt := PySem.Challenge.pw_longsheet_k11_values_known.main.body.getD i (.Pass ⟨0, 0, 0, 0⟩)
abbrev s_is_integer : Stmt := top 3
abbrev N_is_integer : List Str := ["thing"]
theorem sc_is_integer : FnScope N_is_integer ["thing"] (defScope s_is_integer) := ⟨rfl, rfl, rfl, by decide +kernel, rfl, by decide +kernel, by decide +kernel⟩
abbrev s_is_number : Stmt := top 4
abbrev N_is_number : List Str := ["thing"]
theorem sc_is_number : FnScope N_is_number ["thing"] (defScope s_is_number) := ⟨rfl, rfl, rfl, by decide +kernel, rfl, by decide +kernel, by decide +kernel⟩
abbrev s_is_value : Stmt := top 5
abbrev N_is_value : List Str := ["thing"]
theorem sc_is_value : FnScope N_is_value ["thing"] (defScope s_is_value) := ⟨rfl, rfl, rfl, by decide +kernel, rfl, by decide +kernel, by decide +kernel⟩
abbrev s_is_error : Stmt := top 6
abbrev N_is_error : List Str := ["thing"]
theorem sc_is_error : FnScope N_is_error ["thing"] (defScope s_is_error) := ⟨rfl, rfl, rfl, by decide +kernel, rfl, by decide +kernel, by decide +kernel⟩
abbrev s_plain : Stmt := top 7
abbrev N_plain : List Str := ["value"]
theorem sc_plain : FnScope N_plain ["value"] (defScope s_plain) := ⟨rfl, rfl, rfl, by decide +kernel, rfl, by decide +kernel, by decide +kernel⟩
abbrev s_first_error : Stmt := top 8
abbrev N_first_error : List Str := ["values", "value"]
theorem sc_first_error : FnScope N_first_error ["values"] (defScope s_first_error) := ⟨rfl, rfl, rfl, by decide +kernel, rfl, by decide +kernel, by decide +kernel⟩
abbrev s__law_bag : Stmt := top 10
abbrev N__law_bag : List Str := ["script", "cell"]
theorem sc__law_bag : FnScope N__law_bag ["script"] (defScope s__law_bag) := ⟨rfl, rfl, rfl, by decide +kernel, rfl, by decide +kernel, by decide +kernel⟩
abbrev s__law_take : Stmt := top 11
abbrev N__law_take : List Str := ["bag", "many", "cell", "mixed", "drawn", "begin", "second"]
theorem sc__law_take : FnScope N__law_take ["bag", "many"] (defScope s__law_take) := ⟨rfl, rfl, rfl, by decide +kernel, rfl, by decide +kernel, by decide +kernel⟩
abbrev s__law_one : Stmt := top 12
abbrev N__law_one : List Str := ["bag", "some"]
theorem sc__law_one : FnScope N__law_one ["bag", "some"] (defScope s__law_one) := ⟨rfl, rfl, rfl, by decide +kernel, rfl, by decide +kernel, by decide +kernel⟩
abbrev s__law_alike : Stmt := top 13
abbrev N__law_alike : List Str := ["found", "due"]
theorem sc__law_alike : FnScope N__law_alike ["found", "due"] (defScope s__law_alike) := ⟨rfl, rfl, rfl, by decide +kernel, rfl, by decide +kernel, by decide +kernel⟩
abbrev s__law_nested : Stmt := top 14
abbrev N__law_nested : List Str := ["many", "found", "k"]
theorem sc__law_nested : FnScope N__law_nested ["many"] (defScope s__law_nested) := ⟨rfl, rfl, rfl, by decide +kernel, rfl, by decide +kernel, by decide +kernel⟩
abbrev s__law_odd : Stmt := top 15
abbrev N__law_odd : List Str := ["bag", "some"]
theorem sc__law_odd : FnScope N__law_odd ["bag"] (defScope s__law_odd) := ⟨rfl, rfl, rfl, by decide +kernel, rfl, by decide +kernel, by decide +kernel⟩
abbrev s__law_is_whole : Stmt := top 16
abbrev N__law_is_whole : List Str := ["thing"]
theorem sc__law_is_whole : FnScope N__law_is_whole ["thing"] (defScope s__law_is_whole) := ⟨rfl, rfl, rfl, by decide +kernel, rfl, by decide +kernel, by decide +kernel⟩
abbrev s__law_is_fault : Stmt := top 17
abbrev N__law_is_fault : List Str := ["thing"]
theorem sc__law_is_fault : FnScope N__law_is_fault ["thing"] (defScope s__law_is_fault) := ⟨rfl, rfl, rfl, by decide +kernel, rfl, by decide +kernel, by decide +kernel⟩
abbrev s__law_due : Stmt := top 18
abbrev N__law_due : List Str := ["thing", "whole", "found"]
theorem sc__law_due : FnScope N__law_due ["thing"] (defScope s__law_due) := ⟨rfl, rfl, rfl, by decide +kernel, rfl, by decide +kernel, by decide +kernel⟩
abbrev s__law_asked : Stmt := top 19
abbrev N__law_asked : List Str := ["thing"]
theorem sc__law_asked : FnScope N__law_asked ["thing"] (defScope s__law_asked) := ⟨rfl, rfl, rfl, by decide +kernel, rfl, by decide +kernel, by decide +kernel⟩
abbrev s__law_thing : Stmt := top 20
abbrev N__law_thing : List Str := ["bag", "some"]
theorem sc__law_thing : FnScope N__law_thing ["bag"] (defScope s__law_thing) := ⟨rfl, rfl, rfl, by decide +kernel, rfl, by decide +kernel, by decide +kernel⟩
abbrev s__law_drawn_value : Stmt := top 21
abbrev N__law_drawn_value : List Str := ["bag", "some"]
theorem sc__law_drawn_value : FnScope N__law_drawn_value ["bag"] (defScope s__law_drawn_value) := ⟨rfl, rfl, rfl, by decide +kernel, rfl, by decide +kernel, by decide +kernel⟩
abbrev s_law : Stmt := top 22
abbrev N_law : List Str := ["script", "bag", "turn", "thing", "due", "shown", "some", "k", "one", "faults", "wanted", "again"]
theorem sc_law : FnScope N_law ["script"] (defScope s_law) := ⟨rfl, rfl, rfl, by decide +kernel, rfl, by decide +kernel, by decide +kernel⟩
structure Txt (K : PySem.W.Frag) (mg : Str → Option Value) : Prop where
  is_integer_ : Has K mg "is_integer" s_is_integer ["thing"]
  is_number_ : Has K mg "is_number" s_is_number ["thing"]
  is_value_ : Has K mg "is_value" s_is_value ["thing"]
  is_error_ : Has K mg "is_error" s_is_error ["thing"]
  plain_ : Has K mg "plain" s_plain ["value"]
  first_error_ : Has K mg "first_error" s_first_error ["values"]
  _law_bag_ : Has K mg "_law_bag" s__law_bag ["script"]
  _law_take_ : Has K mg "_law_take" s__law_take ["bag", "many"]
  _law_one_ : Has K mg "_law_one" s__law_one ["bag", "some"]
  _law_alike_ : Has K mg "_law_alike" s__law_alike ["found", "due"]
  _law_nested_ : Has K mg "_law_nested" s__law_nested ["many"]
  _law_odd_ : Has K mg "_law_odd" s__law_odd ["bag"]
  _law_is_whole_ : Has K mg "_law_is_whole" s__law_is_whole ["thing"]
  _law_is_fault_ : Has K mg "_law_is_fault" s__law_is_fault ["thing"]
  _law_due_ : Has K mg "_law_due" s__law_due ["thing"]
  _law_asked_ : Has K mg "_law_asked" s__law_asked ["thing"]
  _law_thing_ : Has K mg "_law_thing" s__law_thing ["bag"]
  _law_drawn_value_ : Has K mg "_law_drawn_value" s__law_drawn_value ["bag"]
  law_ : Has K mg "law" s_law ["script"]
  z_isinstance : mg "isinstance" = none
  z_int : mg "int" = none
  z_bool : mg "bool" = none
  z_str : mg "str" = none
  z_len : mg "len" = none
  z_range : mg "range" = none
  z_abs : mg "abs" = none
  z_repr : mg "repr" = none
  c_FARTHEST : CD K mg "FARTHEST" (.int 1000000000000)
  c_ERRORS : CD K mg "ERRORS" (.tuple [.str "#lost", .str "#ring", .str "#zero"])
local macro_rules | `(tactic| walk_at "dl") => `(tactic| first
  | ((with_reducible show NA _ _ _ (_ :: _) _); refine na_cons ?_)
  | ((with_reducible show NA _ _ _ [] _); refine na_nil ?_)
  | ((with_reducible show N _ _ _ (.Constant (.int _) _ _) _); refine n_int ?_)
  | ((with_reducible show N _ _ _ (.Constant (.str _) _ _) _); refine n_str ?_)
  | ((with_reducible show N _ _ _ (.Constant (.bool _) _ _) _); refine n_bl ?_)
  | ((with_reducible show N _ _ _ (.Constant .none _ _) _); refine n_non ?_)
  | ((with_reducible show N _ _ _ (.Tuple _ _ _) _); refine n_tupU ?_)
  | ((with_reducible show N _ _ _ (.List _ _) _); refine n_lstU ?_)
  | ((with_reducible show N _ _ _ (.UnaryOp .USub _ _) _); refine n_neg ?_)
  | ((with_reducible show N _ _ _ (.BinOp _ .Pow _ _) _); refine n_pow ?_)
  | ((with_reducible show N _ _ _ (.Dict [] [] _) _); refine n_dict0 ?_)
  | ((with_reducible show N _ _ _ (.BinOp (.List _ _) .Mult _ _) _); refine n_repL ?_)
  | ((with_reducible show N _ _ _ (.BinOp (.Constant (.str _) _ _) .Mult _ _) _); refine n_repX ?_)
  | ((with_reducible show N _ _ _ (.BinOp _ .Add (.Constant (.int _) _ _) _) _); refine n_add ?_))
local macro_rules | `(tactic| walk_at "dx") => `(tactic| first
  | walk_at "dl"
  | refine ⟨_, rfl, rfl, ?_⟩
  | refine ⟨_, rfl, ?_⟩
  | refine ⟨_, _, rfl, rfl, by decide, by decide, by decide, by decide, by decide +kernel, ?_⟩
  | refine ⟨_, _, rfl, rfl, by decide, by decide, by decide, ?_⟩
  | refine ⟨_, _, rfl, rfl, ⟨by decide, by decide, by decide⟩, ?_⟩
  | refine ⟨_, _, rfl, rfl, by decide, ?_⟩
  | refine ⟨_, _, rfl, rfl, ?_⟩)

section
variable {P : Program} {w : World} {K : PySem.W.Frag} {mg : Str → Option Value} {base : Heap}
theorem cut63 (ns : List Int) : (cutD ns none (some 63)).length ≤ 63 := by
  unfold cutD
  rw [List.length_take, show HT.sIx ns.length ns.length (some 63) = min 63 ns.length from HT.sIx_nat ns.length ns.length 63]
  omega
theorem r_bag (T : Txt K mg) : Rdy P w K mg base 1 "_law_bag" ["script"] bagC := by
  refine rdy T._law_bag_ sc__law_bag (fun cs ω Φ ⟨ns, e, _⟩ => by rw [e]; rfl) fun X f cdv A outer s H E hX hr cs ω Φ ⟨ns, e, q⟩ => ?_
  subst hX; subst e
  refine b_one ?_
  refine s_ret ?_
  refine n_seal bagI ?_
  refine n_lstO ?_
  refine na_cons ?_
  refine n_int ?_
  refine na_cons ?_
  refine n_int ?_
  refine na_cons ?_
  refine n_int ?_
  refine na_cons ?_
  refine n_lcL 1 rfl sc__law_bag.nd (blkOk_by (N := N__law_bag) (sc := defScope s__law_bag) (by decide +kernel)) ?_ (fun s' H' C cl fp => pg_name (i := 1) sc__law_bag.nd rfl (Or.inl rfl))
  refine n_slS ?_
  refine n_var 0 ?_
  show N _ _ _ _ _
  refine n_int ⟨63, rfl, ns, rfl, _, rfl, fun i ω2 acc => ω2 = ω ∧ ∃ ms : List Int, acc = ms.map .int ∧ ms.length = i ∧ i ≤ 63 ∧ ∀ x ∈ ms, 0 ≤ x, ⟨rfl, [], rfl, rfl, by decide, by simp⟩, ?_, ?_⟩
  · rintro i ω2 acc D d0 hd ⟨rfl, ms, rfl, hl, hi, hm⟩ s' H' C cl fp
    rw [List.getElem?_map] at hd
    cases hq : (cutD ns none (some 63))[i]? with
    | none => rw [hq] at hd; cases hd
    | some x =>
      rw [hq] at hd
      cases hd
      have hlt : i < 63 := Nat.lt_of_lt_of_le (List.getElem?_eq_some_iff.mp hq).1 (cut63 ns)
      refine n_abs T.z_abs ?_
      refine n_var 1 ⟨x, rfl, _, rfl, by rw [List.length_map]; omega, ω2, rfl, rfl, ms ++ [if x < 0 then -x else x], by rw [List.map_append]; rfl, by rw [List.length_append, hl]; rfl, by omega, ?_⟩
      intro y hy
      rcases List.mem_append.mp hy with hy | hy
      · exact hm y hy
      · rw [List.mem_singleton.mp hy]; exact abs_nn x
  · rintro ω2 acc ⟨rfl, ms, rfl, hl, hi, hm⟩
    rw [List.length_map] at hl
    have := cut63 ns
    exact na_nil ⟨[.int 0, .int 1234567891, .int 0, .list (ms.map .int)], rfl, (by show 4 ≤ 1000; decide), fun p => ⟨p, _, ω2, rfl, ⟨0, 1234567891, 0, ms, rfl, by decide, by decide, by decide, by decide, by omega, hm⟩, q p⟩⟩
theorem r_take (T : Txt K mg) : Rdy P w K mg base 1 "_law_take" ["bag", "many"] takeC := by
  refine rdy T._law_take_ sc__law_take (fun cs ω Φ ⟨n, p, m, e, _⟩ => by rw [e]; rfl) fun X f cdv A outer s H E hX hr cs ω Φ ⟨n, p, m, e, hw, m1, m2, q⟩ => ?_
  have hu := room_u64 hr
  subst hX; subst e
  refine b_open hw fun its ⟨a, b, c, ns, e, a0, b0, b1, c0, hl, hn⟩ => ?_
  subst e
  have gs : ∀ jts, (ω.set n (p, lstP jts))[n]? = some (p, lstP jts) := fun _ => get_set hw
  have sx : ∀ jts kts, (ω.set n (p, lstP jts)).set n (p, lstP kts) = ω.set n (p, lstP kts) := fun _ _ => List.set_set ..
  -- if bag[0] == 0: ..
  refine b_mid (fun ω' δ' => ∃ (a b c : Int) (x2 x3 : Option Cell), ω' = ω.set n (p, lstP [.int a, .int b, .int c, .list (ns.map .int)]) ∧ δ' = [some (.raw (.ref p)), some (.dat (.int m)), x2, x3, none, none, none] ∧ 0 ≤ a ∧ 0 ≤ b ∧ b < 2147483647 ∧ 0 ≤ c) ?_ ?_
  · refine s_if ?_
    refine nt_eq hu ?_
    refine n_ixO (fun _ _ => rfl) 0 n rfl ?_
    refine n_int ?_
    refine ⟨_, 0, _, gs _, rfl, rfl, ?_⟩
    refine n_int ⟨_, _, rfl, rfl, rfl, rfl, ?_⟩
    rw [eqv_ints]
    refine ite2 (fun ha => ?_) (fun ha => ?_)
    · -- cell = 0
      refine b_cons ?_
      refine s_set 2 sc__law_take.nd ?_
      refine n_int ?_
      -- if bag[2] < len(bag[3]): cell = bag[3][bag[2]]
      refine b_mid (fun ω' δ' => ω' = ω.set n (p, lstP [.int a, .int b, .int c, .list (ns.map .int)]) ∧ ∃ y : Int, 0 ≤ y ∧ δ' = [some (.raw (.ref p)), some (.dat (.int m)), some (.dat (.int y)), none, none, none, none]) ?_ ?_
      · refine s_if ?_
        refine nt_lt ?_
        refine n_ixO (fun _ _ => rfl) 0 n rfl ?_
        refine n_int ?_
        refine ⟨_, 2, _, gs _, rfl, rfl, ?_⟩
        refine n_len T.z_len ?_
        refine n_ixO (fun _ _ => rfl) 0 n rfl ?_
        refine n_int ?_
        refine ⟨_, 3, _, gs _, rfl, rfl, _, _, rfl, rfl, _, _, rfl, rfl, ?_⟩
        refine ite2 (fun hc => ?_) (fun hc => ?_)
        · have hc' : c < ((ns.map PyData.int).length : Int) := of_decide_eq_true hc
          obtain ⟨d, hd, _⟩ := atI_in c0 hc'
          obtain ⟨y, hy, rfl⟩ := atI_int hd
          refine b_one ?_
          refine s_set 2 sc__law_take.nd ?_
          refine n_ixl (fun _ _ => rfl) ?_
          refine n_ixO (fun _ _ => rfl) 0 n rfl ?_
          refine n_int ?_
          refine ⟨_, 3, _, gs _, rfl, rfl, ?_⟩
          refine n_ixO (fun _ _ => rfl) 0 n rfl ?_
          refine n_int ?_
          exact ⟨_, 2, _, gs _, rfl, rfl, _, _, _, rfl, rfl, hd, rfl, y, hn y hy, rfl⟩
        · exact b_nil ⟨rfl, 0, Int.le_refl 0, rfl⟩
      rintro ω' δ' ⟨rfl, y, hy, rfl⟩
      -- bag[2] += 1
      refine b_cons ?_
      refine s_augO 0 n rfl ?_
      refine n_int ?_
      refine ⟨_, 2, c, gs _, rfl, by decide, by decide, rfl, ?_⟩
      refine n_int ⟨1, gs _, rfl, ?_⟩
      rw [sx]
      -- if cell >= 10 ** 18: bag[0] = cell
      refine b_mid (fun ω' δ' => ∃ a : Int, 0 ≤ a ∧ ω' = ω.set n (p, lstP [.int a, .int b, .int (c + 1), .list (ns.map .int)]) ∧ δ' = [some (.raw (.ref p)), some (.dat (.int m)), some (.dat (.int y)), none, none, none, none]) ?_ ?_
      · refine s_if ?_
        refine nt_ge ?_
        refine n_var 2 ?_
        refine n_int ?_
        refine ⟨_, _, rfl, rfl, ?_⟩
        refine ite2 (fun _ => ?_) (fun _ => ?_)
        · refine b_one ?_
          refine s_setO 0 n rfl ?_
          refine n_var 2 ?_
          refine n_int ?_
          refine ⟨_, _, 0, 0, gs _, rfl, rfl, rfl, ?_⟩
          rw [sx]
          exact ⟨y, hy, rfl, rfl⟩
        · exact b_nil ⟨a, a0, rfl, rfl⟩
      rintro ω' δ' ⟨a', ha', rfl, rfl⟩
      -- mixed = bag[1] * 48271 + int(cell) % 2147483647 + 7919 * bag[2]
      refine b_cons ?_
      refine s_set 3 sc__law_take.nd ?_
      refine n_add ?_
      refine n_add ?_
      refine n_mul ?_
      refine n_ixO (fun _ _ => rfl) 0 n rfl ?_
      refine n_int ?_
      refine ⟨_, 1, _, gs _, rfl, rfl, ?_⟩
      refine n_int ⟨_, _, rfl, rfl, .inr (by decide), ?_⟩
      refine n_mod ?_
      refine n_intI T.z_int ?_
      refine n_var 2 ?_
      refine ⟨_, rfl, ?_⟩
      refine n_int ⟨_, _, rfl, rfl, by decide, ?_⟩
      refine ⟨_, _, rfl, rfl, ?_⟩
      refine n_mul ?_
      refine n_int ?_
      refine n_ixO (fun _ _ => rfl) 0 n rfl ?_
      refine n_int ?_
      refine ⟨_, 2, _, gs _, rfl, rfl, _, _, rfl, rfl, .inl (by decide), _, _, rfl, rfl, ?_⟩
      -- bag[1] = int(mixed) % 2147483647
      refine b_one ?_
      refine s_setO 0 n rfl ?_
      refine n_mod ?_
      refine n_intI T.z_int ?_
      refine n_var 3 ?_
      refine ⟨_, rfl, ?_⟩
      refine n_int ⟨_, _, rfl, rfl, by decide, ?_⟩
      refine n_int ⟨_, _, 1, 1, gs _, rfl, rfl, rfl, ?_⟩
      rw [sx]
      have hm := fmod_nn (a := b * 48271 + y.fmod 2147483647 + 7919 * (c + 1)) (b := 2147483647) (by decide)
      exact ⟨a', _, c + 1, _, _, rfl, rfl, ha', hm.1, hm.2, by omega⟩
    · exact b_nil ⟨a, b, c, _, _, rfl, rfl, a0, b0, b1, c0⟩
  rintro ω' δ' ⟨a, b, c, x2, x3, rfl, rfl, a0, b0, b1, c0⟩
  have back : ∀ (v a' : Int), 0 ≤ v → v < m → 0 ≤ a' → (closeE ω n p bagI { nx := fun ω' _ => Φ ω' (.dat .none), rt := Φ }).rt (ω.set n (p, lstP [.int a', .int b, .int c, .list (ns.map .int)])) (.dat (.int v)) := fun v a' v0 v1 h0 =>
    ⟨_, ⟨a', b, c, ns, rfl, h0, b0, b1, c0, hl, hn⟩, rfl, q v v0 v1⟩
  -- if bag[0] > 0: ..
  refine b_cons ?_
  refine s_if ?_
  refine nt_gt ?_
  refine n_ixO (fun _ _ => rfl) 0 n rfl ?_
  refine n_int ?_
  refine ⟨_, 0, _, gs _, rfl, rfl, ?_⟩
  refine n_int ⟨_, _, rfl, rfl, ?_⟩
  refine ite2 (fun _ => ?_) (fun _ => ?_)
  · refine b_cons ?_
    refine s_set 4 sc__law_take.nd ?_
    refine n_mod ?_
    refine n_intI T.z_int ?_
    refine n_ixO (fun _ _ => rfl) 0 n rfl ?_
    refine n_int ?_
    refine ⟨_, 0, _, gs _, rfl, rfl, _, rfl, ?_⟩
    refine n_var 1 ?_
    refine ⟨_, _, rfl, rfl, by omega, ?_⟩
    refine b_cons ?_
    refine s_setO 0 n rfl ?_
    refine n_fdiv ?_
    refine n_intI T.z_int ?_
    refine n_ixO (fun _ _ => rfl) 0 n rfl ?_
    refine n_int ?_
    refine ⟨_, 0, _, gs _, rfl, rfl, _, rfl, ?_⟩
    refine n_var 1 ?_
    refine ⟨_, _, rfl, rfl, ⟨by omega, by omega⟩, ?_⟩
    refine n_int ⟨_, _, 0, 0, gs _, rfl, rfl, rfl, ?_⟩
    rw [sx]
    refine b_one ?_
    refine s_ret ?_
    refine n_var 4 ?_
    have h := fmod_nn (a := a) (b := m) (by omega)
    exact back _ _ h.1 h.2 (fdiv_nn (by omega) a0)
  · refine b_nil ?_
    -- begin, second
    refine b_cons ?_
    refine s_set 5 sc__law_take.nd ?_
    refine n_mod ?_
    refine n_intI T.z_int ?_
    refine n_mul ?_
    refine n_add ?_
    refine n_ixO (fun _ _ => rfl) 0 n rfl ?_
    refine n_int ?_
    refine ⟨_, 1, _, gs _, rfl, rfl, ?_⟩
    refine n_int ⟨_, _, rfl, rfl, ?_⟩
    refine n_int ⟨_, _, rfl, rfl, .inr (by decide), _, rfl, ?_⟩
    refine n_int ⟨_, _, rfl, rfl, by decide, ?_⟩
    have h1 := fmod_nn (a := (b + 1) * 39373) (b := 1000000007) (by decide)
    refine b_cons ?_
    refine s_set 6 sc__law_take.nd ?_
    refine n_mod ?_
    refine n_intI T.z_int ?_
    refine n_mul ?_
    refine n_mod ?_
    refine n_intI T.z_int ?_
    refine n_mul ?_
    refine n_var 5 ?_
    refine n_var 5 ?_
    refine ⟨_, _, rfl, rfl, .inl (by omega), _, rfl, ?_⟩
    refine n_int ⟨_, _, rfl, rfl, by decide, ?_⟩
    refine n_int ⟨_, _, rfl, rfl, .inr (by decide), _, rfl, ?_⟩
    refine n_int ⟨_, _, rfl, rfl, by decide, ?_⟩
    refine b_one ?_
    refine s_ret ?_
    refine n_mod ?_
    refine n_intI T.z_int ?_
    refine n_fdiv ?_
    refine n_var 6 ?_
    refine n_int ?_
    refine ⟨_, _, rfl, rfl, ⟨by decide, by decide⟩, _, rfl, ?_⟩
    refine n_var 1 ?_
    refine ⟨_, _, rfl, rfl, by omega, ?_⟩
    have h := fmod_nn (a := ((((b + 1) * 39373).fmod 1000000007 * ((b + 1) * 39373).fmod 1000000007).fmod 998244353 * 30011).fmod 998244353 |>.fdiv 7) (b := m) (by omega)
    exact back _ a h.1 h.2 a0
end

section
variable {P : Program} {w : World} {K : PySem.W.Frag} {mg : Str → Option Value} {base : Heap}
theorem r_one (T : Txt K mg) : Rdy P w K mg base 2 "_law_one" ["bag", "some"] oneC := by
  refine rdy T._law_one_ sc__law_one (fun cs ω Φ ⟨n, p, ds, e, _⟩ => by rw [e]; rfl) fun X f cdv A outer s H E hX hr cs ω Φ ⟨n, p, ds, e, hw, hne, hl, q⟩ => ?_
  subst hX; subst e
  refine b_one ?_
  refine s_ret ?_
  refine n_ixl (fun _ _ => rfl) ?_
  refine n_var 1 ?_
  refine n_fn (r_take T) hr ?_
  refine na_cons ?_
  refine n_var 0 ?_
  refine na_cons ?_
  refine n_len T.z_len ?_
  refine n_var 1 ?_
  refine ⟨_, _, rfl, rfl, na_nil ⟨n, p, _, rfl, hw, ?_, by omega, fun v v0 v1 => ?_⟩⟩
  · have : ds.length ≠ 0 := fun z => hne (List.length_eq_zero_iff.mp z)
    omega
  · obtain ⟨d, h1, h2⟩ := atI_in v0 v1
    exact ⟨_, _, d, rfl, rfl, h1, q d (List.mem_of_getElem? h2)⟩
theorem r_nested (T : Txt K mg) : Rdy P w K mg base 1 "_law_nested" ["many"] nestC := by
  refine rdy T._law_nested_ sc__law_nested (fun cs ω Φ ⟨n, e, _⟩ => by rw [e]; rfl) fun X f cdv A outer s H E hX hr cs ω Φ ⟨n, e, hn, q⟩ => ?_
  subst hX; subst e
  refine b_cons ?_
  refine s_set 1 sc__law_nested.nd ?_
  refine n_lst ?_
  refine na_nil ?_
  refine ⟨[], rfl, by decide, ?_⟩
  refine b_cons ?_
  refine s_forR 2 PassesOwn.never rfl sc__law_nested.nd T.z_range ?_
  refine n_var 0 ?_
  refine ⟨_, rfl, by omega, by omega, fun i ω' δ' => i ≤ n ∧ ω' = ω ∧ ∃ x2, δ' = [some (.dat (.int n)), some (.dat (nestD i)), x2], ⟨by omega, rfl, none, rfl⟩, ?_, ?_⟩
  · rintro i ω' δ' hi ⟨_, rfl, x2, rfl⟩
    refine b_one ?_
    refine s_set 1 sc__law_nested.nd ?_
    refine n_lst ?_
    refine na_cons ?_
    refine n_var 1 ?_
    refine na_nil ?_
    exact ⟨[nestD i], rfl, (by show 1 ≤ 1000; decide), by omega, rfl, _, rfl⟩
  · rintro ω' δ' ⟨_, rfl, x2, rfl⟩
    refine b_one ?_
    refine s_ret ?_
    refine n_var 1 ?_
    exact q
theorem r_alike (T : Txt K mg) (hsm : ∃ m, base.Ns sysModules m) : RdG P w K mg base 1 "_law_alike" ["found", "due"] alikeC := by
  refine rdg T._law_alike_ sc__law_alike (fun cs ω Φ ⟨d, e, _⟩ => by rw [e]; rfl) fun X f cdv A outer s H E hX hg hr cs ω Φ ⟨d, e, h1, h2, q⟩ => ?_
  have hu := room_u64 hr
  have hu2 := room_u hr
  subst hX; subst e
  refine b_one ?_
  refine s_ret ?_
  refine n_and ?_
  refine n_eq hu ?_
  refine n_var 0 ?_
  refine n_var 1 ?_
  refine ⟨d, d, rfl, rfl, h1, h1, ?_⟩
  rw [SeqAt.eqv_refl d (SeqAt.canLay_of_shaped h1)]
  refine ⟨true, rfl, iteT ?_⟩
  refine n_one ?_
  refine n_eqS ?_
  refine n_repr hg hsm hu2 T.z_repr ?_
  refine n_var 0 ?_
  refine ⟨d, rfl, h2, ?_⟩
  refine n_repr hg hsm hu2 T.z_repr ?_
  refine n_var 1 ?_
  refine ⟨d, rfl, h2, _, _, rfl, rfl, ?_⟩
  show Φ ω (.dat (.bool (decide (d.shown = d.shown))))
  rw [decide_eq_true rfl]
  exact q
end

section
variable {P : Program} {w : World} {K : PySem.W.Frag} {mg : Str → Option Value} {base : Heap}
def oddC : Con := fun cs ω Φ => ∃ (n : Nat) (p : Addr), cs = [.raw (.ref p)] ∧ ω[n]? = some (p, bagP) ∧ ∀ d, ShowsN 10000 d → Φ ω (.dat d)
theorem r_odd (T : Txt K mg) : Rdy P w K mg base 3 "_law_odd" ["bag"] oddC := by
  refine rdy T._law_odd_ sc__law_odd (fun cs ω Φ ⟨n, p, e, _⟩ => by rw [e]; rfl) fun X f cdv A outer s H E hX hr cs ω Φ ⟨n, p, e, hw, q⟩ => ?_
  subst hX; subst e
  refine b_cons ?_
  refine s_set 1 sc__law_odd.nd ?_
  repeat walk_at "dx"
  refine b_cons ?_
  refine s_set 1 sc__law_odd.nd ?_
  refine n_catL ?_
  refine n_var 1 ?_
  repeat walk_at "dx"
  refine b_cons ?_
  refine s_set 1 sc__law_odd.nd ?_
  refine n_catL ?_
  refine n_var 1 ?_
  repeat walk_at "dx"
  refine b_cons ?_
  refine s_set 1 sc__law_odd.nd ?_
  refine n_catL ?_
  refine n_var 1 ?_
  repeat walk_at "dx"
  refine b_cons ?_
  refine s_set 1 sc__law_odd.nd ?_
  refine n_catL ?_
  refine n_var 1 ?_
  repeat walk_at "dx"
  refine n_dict1 fun pd => ?_
  refine n_int ⟨_, .inl 0, rfl, rfl, ?_⟩
  refine n_int ⟨_, _, rfl, rfl, ?_⟩
  repeat walk_at "dx"
  refine b_cons ?_
  refine s_set 1 sc__law_odd.nd ?_
  refine n_catL ?_
  refine n_var 1 ?_
  repeat walk_at "dx"
  refine n_fn (r_nested T) hr ?_
  refine na_cons ?_
  refine n_int ?_
  refine na_nil ?_
  refine ⟨15, rfl, by decide, ?_⟩
  repeat walk_at "dx"
  intro y hy
  repeat walk_at "dx"
  refine ⟨Nat.le_of_ble_eq_true rfl, ?_⟩
  refine b_one ?_
  refine s_ret ?_
  refine n_fn (r_one T) hr ?_
  refine na_cons ?_
  refine n_var 0 ?_
  refine na_cons ?_
  refine n_var 1 ?_
  refine na_nil ?_
  refine ⟨n, p, _, rfl, hw, List.cons_ne_nil _ _, Nat.le_of_ble_eq_true rfl, fun d hd => q d (showsN_of (List.all_eq_true.mp ?_ d hd))⟩
  refine all_app (by decide +kernel) (all_con (by decide +kernel) (all_con (by decide +kernel) (all_con (by decide +kernel) (all_con (by decide +kernel) (all_con (by decide +kernel) (all_con (showsC_of (hy.mono (by decide))) rfl))))))
end

section
variable {P : Program} {w : World} {K : PySem.W.Frag} {mg : Str → Option Value} {base : Heap}
def con1 (F : PyData → PyData) : Con := fun cs ω Φ => ∃ d, cs = [.dat d] ∧ Φ ω (.dat (F d))
theorem con1_len {F : PyData → PyData} {cs : List Cell} {ω : Ow} {Φ : Ow → Cell → Prop} (h : con1 F cs ω Φ) : cs.length = 1 := by
  obtain ⟨d, rfl, _⟩ := h
  rfl
def isIntD : PyData → Bool
  | .int _ => true
  | _ => false
def isNumD : PyData → Bool
  | .int i => decide (-1000000000000 ≤ i) && decide (i ≤ 1000000000000)
  | _ => false
def errs : List PyData := [.str "#lost", .str "#ring", .str "#zero"]
def isErrD : PyData → Bool
  | .str x => inD (.str x) errs
  | _ => false
def isValD (d : PyData) : Bool := isNone d || isIntD d || isErrD d
def plainD : PyData → PyData
  | .none => .int 0
  | d => d
theorem r_is_integer (T : Txt K mg) : Rdy P w K mg base 1 "is_integer" ["thing"] (con1 fun d => .bool (isIntD d)) := by
  refine rdy T.is_integer_ sc_is_integer (fun cs ω Φ h => con1_len h) fun X f cdv A outer s H E hX hr cs ω Φ ⟨d, e, q⟩ => ?_
  subst hX; subst e
  refine b_one ?_
  refine s_ret ?_
  refine n_and ?_
  refine n_isi .int T.z_isinstance T.z_int ?_
  refine n_var 0 ?_
  refine ⟨d, rfl, _, rfl, ?_⟩
  refine ite2 (fun h => ?_) (fun h => ?_)
  · refine n_one ?_
    refine n_not ?_
    refine n_isi .bool T.z_isinstance T.z_bool ?_
    refine n_var 0 ?_
    refine ⟨d, rfl, _, rfl, ?_⟩
    cases d <;> first | exact q | cases h
  · cases d <;> first | exact q | exact absurd rfl h
theorem r_is_whole (T : Txt K mg) : Rdy P w K mg base 1 "_law_is_whole" ["thing"] (con1 fun d => .bool (isIntD d)) := by
  refine rdy T._law_is_whole_ sc__law_is_whole (fun cs ω Φ h => con1_len h) fun X f cdv A outer s H E hX hr cs ω Φ ⟨d, e, q⟩ => ?_
  subst hX; subst e
  refine b_one ?_
  refine s_ret ?_
  refine n_and ?_
  refine n_isi .int T.z_isinstance T.z_int ?_
  refine n_var 0 ?_
  refine ⟨d, rfl, _, rfl, ?_⟩
  refine ite2 (fun h => ?_) (fun h => ?_)
  · refine n_one ?_
    refine n_not ?_
    refine n_isi .bool T.z_isinstance T.z_bool ?_
    refine n_var 0 ?_
    refine ⟨d, rfl, _, rfl, ?_⟩
    cases d <;> first | exact q | cases h
  · cases d <;> first | exact q | exact absurd rfl h
theorem int_of_isInt {d : PyData} (h : isIntD d = true) : ∃ i, d = .int i := by
  cases d <;> first | exact ⟨_, rfl⟩ | cases h
theorem r_is_number (T : Txt K mg) : Rdy P w K mg base 2 "is_number" ["thing"] (con1 fun d => .bool (isNumD d)) := by
  refine rdy T.is_number_ sc_is_number (fun cs ω Φ h => con1_len h) fun X f cdv A outer s H E hX hr cs ω Φ ⟨d, e, q⟩ => ?_
  subst hX; subst e
  refine b_one ?_
  refine s_ret ?_
  refine n_and ?_
  refine n_fn (r_is_integer T) hr ?_
  refine na_cons ?_
  refine n_var 0 ?_
  refine na_nil ?_
  refine ⟨d, rfl, _, rfl, ?_⟩
  refine ite2 (fun h => ?_) (fun h => ?_)
  · obtain ⟨i, rfl⟩ := int_of_isInt h
    refine n_one ?_
    refine n_chainI op_le op_le ?_
    refine n_neg ?_
    refine n_const T.c_FARTHEST ?_
    refine ⟨_, rfl, ?_⟩
    refine n_var 0 ⟨_, _, rfl, rfl, ?_⟩
    refine ite2 (fun h => ?_) (fun h => ?_)
    · refine n_const T.c_FARTHEST ⟨_, rfl, ?_⟩
      have e : isNumD (.int i) = decide (i ≤ 1000000000000) := by show (decide (-1000000000000 ≤ i) && decide (i ≤ 1000000000000)) = _; rw [h]; rfl
      show Φ ω (.dat (.bool (decide (i ≤ 1000000000000))))
      rw [← e]
      exact q
    · have e : isNumD (.int i) = false := by show (decide (-1000000000000 ≤ i) && decide (i ≤ 1000000000000)) = _; rw [Bool.eq_false_iff.mpr h]; rfl
      show Φ ω (.dat (.bool false))
      rw [← e]
      exact q
  · cases d <;> first | exact q | exact absurd rfl h
theorem r_is_error (T : Txt K mg) : Rdy P w K mg base 1 "is_error" ["thing"] (con1 fun d => .bool (isErrD d)) := by
  refine rdy T.is_error_ sc_is_error (fun cs ω Φ h => con1_len h) fun X f cdv A outer s H E hX hr cs ω Φ ⟨d, e, q⟩ => ?_
  subst hX; subst e
  refine b_one ?_
  refine s_ret ?_
  refine n_and ?_
  refine n_isi .str T.z_isinstance T.z_str ?_
  refine n_var 0 ?_
  refine ⟨d, rfl, _, rfl, ?_⟩
  refine ite2 (fun h => ?_) (fun h => ?_)
  · refine n_one ?_
    refine n_in (by rfl) ?_
    refine n_var 0 ?_
    refine n_const T.c_ERRORS ?_
    refine ⟨d, errs, rfl, .inl rfl, ?_, by decide, ?_⟩
    · cases d <;> first | rfl | cases h
    · cases d <;> first | exact q | cases h
  · cases d <;> first | exact q | exact absurd rfl h
theorem r_is_fault (T : Txt K mg) : Rdy P w K mg base 1 "_law_is_fault" ["thing"] (con1 fun d => .bool (isErrD d)) := by
  refine rdy T._law_is_fault_ sc__law_is_fault (fun cs ω Φ h => con1_len h) fun X f cdv A outer s H E hX hr cs ω Φ ⟨d, e, q⟩ => ?_
  subst hX; subst e
  refine b_one ?_
  refine s_ret ?_
  refine n_and ?_
  refine n_isi .str T.z_isinstance T.z_str ?_
  refine n_var 0 ?_
  refine ⟨d, rfl, _, rfl, ?_⟩
  refine ite2 (fun h => ?_) (fun h => ?_)
  · refine n_one ?_
    refine n_in (by rfl) ?_
    refine n_var 0 ?_
    repeat walk_at "dl"
    refine ⟨errs, rfl, rfl, ?_⟩
    refine ⟨d, errs, rfl, .inl rfl, ?_, by decide, ?_⟩
    · cases d <;> first | rfl | cases h
    · cases d <;> first | exact q | cases h
  · cases d <;> first | exact q | exact absurd rfl h
theorem r_is_value (T : Txt K mg) : Rdy P w K mg base 2 "is_value" ["thing"] (con1 fun d => .bool (isValD d)) := by
  refine rdy T.is_value_ sc_is_value (fun cs ω Φ h => con1_len h) fun X f cdv A outer s H E hX hr cs ω Φ ⟨d, e, q⟩ => ?_
  subst hX; subst e
  refine b_one ?_
  refine s_ret ?_
  refine n_or ?_
  refine n_isN ?_
  refine n_var 0 ?_
  refine ⟨d, rfl, _, rfl, ?_⟩
  refine ite2 (fun h => ?_) (fun h => ?_)
  · show Φ ω (.dat (.bool true))
    have e : isValD d = true := by unfold isValD; rw [h]; rfl
    rw [← e]; exact q
  · refine n_or ?_
    refine n_fn (r_is_integer T) hr ?_
    refine na_cons ?_
    refine n_var 0 ?_
    refine na_nil ?_
    refine ⟨d, rfl, _, rfl, ?_⟩
    refine ite2 (fun h2 => ?_) (fun h2 => ?_)
    · show Φ ω (.dat (.bool true))
      have e : isValD d = true := by unfold isValD; rw [h2, Bool.or_true]; rfl
      rw [← e]; exact q
    · refine n_one ?_
      refine n_fn (r_is_error T) hr ?_
      refine na_cons ?_
      refine n_var 0 ?_
      refine na_nil ?_
      refine ⟨d, rfl, ?_⟩
      have e : isErrD d = isValD d := by unfold isValD; rw [Bool.eq_false_iff.mpr h, Bool.eq_false_iff.mpr h2]; rfl
      show Φ ω (.dat (.bool (isErrD d)))
      rw [e]; exact q
theorem r_plain (T : Txt K mg) : Rdy P w K mg base 1 "plain" ["value"] (con1 plainD) := by
  refine rdy T.plain_ sc_plain (fun cs ω Φ h => con1_len h) fun X f cdv A outer s H E hX hr cs ω Φ ⟨d, e, q⟩ => ?_
  subst hX; subst e
  refine b_one ?_
  refine s_ret ?_
  refine n_ifx (ΦT := fun _ _ => True) ?_
  refine nt_isN ?_
  refine n_var 0 ?_
  refine ⟨d, rfl, ?_⟩
  refine ite2 (fun h => ?_) (fun h => ?_)
  · refine n_int ?_
    cases d <;> first | exact q | cases h
  · refine n_var 0 ?_
    cases d <;> first | exact q | exact absurd rfl h
/-- the first error, or None -/
def firstErr : List PyData → PyData
  | [] => .none
  | d :: r => if isErrD d then d else firstErr r
def listC (F : List PyData → PyData) : Con := fun cs ω Φ => ∃ ds, cs = [.dat (.list ds)] ∧ Φ ω (.dat (F ds))
theorem firstErr_at : ∀ (ds : List PyData) (i : Nat) (d : PyData), (∀ j, j < i → ∀ e, ds[j]? = some e → isErrD e = false) → ds[i]? = some d → isErrD d = true → firstErr ds = d
  | [], _, _, _, h, _ => by simp at h
  | x :: r, 0, d, _, h, hd => by
    have e : x = d := by simpa using h
    subst e
    unfold firstErr
    rw [if_pos hd]
  | x :: r, i + 1, d, hn, h, hd => by
    unfold firstErr
    rw [hn 0 (by omega) x rfl]
    exact firstErr_at r i d (fun j hj e he => hn (j + 1) (by omega) e (by simpa using he)) (by simpa using h) hd
theorem firstErr_none : ∀ (ds : List PyData), (∀ (j : Nat) (e : PyData), ds[j]? = some e → isErrD e = false) → firstErr ds = .none
  | [], _ => rfl
  | x :: r, h => by
    unfold firstErr
    rw [h 0 x rfl]
    exact firstErr_none r fun j e he => h (j + 1) e (by simpa using he)
theorem r_first_error (T : Txt K mg) : Rdy P w K mg base 2 "first_error" ["values"] (listC firstErr) := by
  refine rdy T.first_error_ sc_first_error (fun cs ω Φ ⟨ds, e, _⟩ => by rw [e]; rfl) fun X f cdv A outer s H E hX hr cs ω Φ ⟨ds, e, q⟩ => ?_
  subst hX; subst e
  refine b_cons ?_
  refine s_forD 1 PassesOwn.never rfl sc_first_error.nd ?_
  refine n_var 0 ?_
  refine ⟨ds, rfl, fun i ω' δ' => ω' = ω ∧ (∃ x1, δ' = [some (.dat (.list ds)), x1]) ∧ ∀ j, j < i → ∀ e, ds[j]? = some e → isErrD e = false, ⟨rfl, ⟨none, rfl⟩, by omega⟩, ?_, ?_⟩
  · rintro i ω' δ' d hd ⟨rfl, ⟨x1, rfl⟩, hn⟩
    refine b_one ?_
    refine s_if ?_
    refine nt_val ?_
    refine n_fn (r_is_error T) hr ?_
    refine na_cons ?_
    refine n_var 1 ?_
    refine na_nil ?_
    refine ⟨d, rfl, _, rfl, ?_⟩
    refine ite2 (fun h => ?_) (fun h => ?_)
    · refine b_one ?_
      refine s_ret ?_
      refine n_var 1 ?_
      show Φ ω' (.dat d)
      rw [← firstErr_at ds i d hn hd h]
      exact q
    · refine b_nil ⟨rfl, ⟨_, rfl⟩, fun j hj e he => ?_⟩
      rcases Nat.lt_or_ge j i with h1 | h1
      · exact hn j h1 e he
      · have : j = i := by omega
        subst this
        rw [hd] at he
        cases he
        exact Bool.eq_false_iff.mpr h
  · rintro ω' δ' ⟨rfl, ⟨x1, rfl⟩, hn⟩
    refine b_one ?_
    refine s_ret ?_
    refine n_non ?_
    show Φ ω' (.dat .none)
    rw [← firstErr_none ds fun j e he => hn j (List.getElem?_eq_some_iff.mp he).1 e he]
    exact q
end

section
variable {P : Program} {w : World} {K : PySem.W.Frag} {mg : Str → Option Value} {base : Heap}
def dueD (d : PyData) : PyData := .list [.bool (isIntD d), .bool (isNumD d), .bool (isValD d), .bool (isErrD d)]
theorem r_asked (T : Txt K mg) : Rdy P w K mg base 3 "_law_asked" ["thing"] (con1 dueD) := by
  refine rdy T._law_asked_ sc__law_asked (fun cs ω Φ h => con1_len h) fun X f cdv A outer s H E hX hr cs ω Φ ⟨d, e, q⟩ => ?_
  subst hX; subst e
  refine b_one ?_
  refine s_ret ?_
  refine n_lstU ?_
  refine na_cons ?_
  refine n_fn (r_is_integer T) hr ?_
  refine na_cons ?_
  refine n_var 0 ?_
  refine na_nil ?_
  refine ⟨d, rfl, ?_⟩
  refine na_cons ?_
  refine n_fn (r_is_number T) hr ?_
  refine na_cons ?_
  refine n_var 0 ?_
  refine na_nil ?_
  refine ⟨d, rfl, ?_⟩
  refine na_cons ?_
  refine n_fn (r_is_value T) hr ?_
  refine na_cons ?_
  refine n_var 0 ?_
  refine na_nil ?_
  refine ⟨d, rfl, ?_⟩
  refine na_cons ?_
  refine n_fn (r_is_error T) hr ?_
  refine na_cons ?_
  refine n_var 0 ?_
  refine na_nil ?_
  refine ⟨d, rfl, ?_⟩
  refine na_nil ?_
  exact ⟨_, rfl, rfl, q⟩
theorem abs_le (i : Int) : decide ((if i < 0 then -i else i) ≤ 10 ^ Int.toNat 12) = isNumD (.int i) := by
  show decide ((if i < 0 then -i else i) ≤ 10 ^ Int.toNat 12) = (decide (-1000000000000 ≤ i) && decide (i ≤ 1000000000000))
  rw [show (10 : Int) ^ Int.toNat 12 = 1000000000000 by decide, Bool.eq_iff_iff]
  simp only [decide_eq_true_eq, Bool.and_eq_true]
  split <;> omega
theorem r_due (T : Txt K mg) : Rdy P w K mg base 2 "_law_due" ["thing"] (con1 dueD) := by
  refine rdy T._law_due_ sc__law_due (fun cs ω Φ h => con1_len h) fun X f cdv A outer s H E hX hr cs ω Φ ⟨d, e, q⟩ => ?_
  subst hX; subst e
  refine b_cons ?_
  refine s_set 1 sc__law_due.nd ?_
  refine n_fn (r_is_whole T) hr ?_
  refine na_cons ?_
  refine n_var 0 ?_
  refine na_nil ?_
  refine ⟨d, rfl, ?_⟩
  refine b_cons ?_
  refine s_set 2 sc__law_due.nd ?_
  refine n_lstU ?_
  refine na_cons ?_
  refine n_var 1 ?_
  refine na_cons ?_
  -- whole and abs(thing) <= 10 ** 12
  refine N.imp (Φ := fun ω1 c => ω1 = ω ∧ c = .dat (.bool (isNumD d))) ?_ ?_
  · refine n_and ?_
    refine n_var 1 ?_
    refine ⟨_, rfl, ?_⟩
    refine ite2 (fun h => ?_) (fun h => ?_)
    · obtain ⟨i, rfl⟩ := int_of_isInt h
      refine n_one ?_
      refine n_le ?_
      refine n_abs T.z_abs ?_
      refine n_var 0 ?_
      refine ⟨i, rfl, ?_⟩
      refine n_pow ?_
      refine n_int ?_
      refine n_int ?_
      refine ⟨_, _, rfl, rfl, ⟨by decide, by decide, by decide⟩, ?_⟩
      refine ⟨_, _, rfl, rfl, rfl, ?_⟩
      rw [← abs_le]
    · refine ⟨rfl, ?_⟩
      cases d <;> first | rfl | exact absurd rfl h
  rintro ω1 c ⟨rfl, rfl⟩
  refine na_cons ?_
  refine N.imp (Φ := fun ω2 c => ω2 = ω1 ∧ c = .dat (.bool (isValD d))) ?_ ?_
  · refine n_or ?_
    refine n_var 1 ?_
    refine ⟨_, rfl, ?_⟩
    refine ite2 (fun h => ?_) (fun h => ?_)
    · refine ⟨rfl, ?_⟩
      unfold isValD
      rw [h, Bool.or_true]; rfl
    · refine n_or ?_
      refine n_isN ?_
      refine n_var 0 ?_
      refine ⟨d, rfl, _, rfl, ?_⟩
      refine ite2 (fun h2 => ?_) (fun h2 => ?_)
      · refine ⟨rfl, ?_⟩
        unfold isValD
        rw [h2]; rfl
      · refine n_one ?_
        refine n_fn (r_is_fault T) hr ?_
        refine na_cons ?_
        refine n_var 0 ?_
        refine na_nil ?_
        refine ⟨d, rfl, rfl, ?_⟩
        unfold isValD
        rw [Bool.eq_false_iff.mpr h, Bool.eq_false_iff.mpr h2]; rfl
  rintro ω2 c ⟨rfl, rfl⟩
  refine na_nil ?_
  refine ⟨_, rfl, rfl, ?_⟩
  refine b_one ?_
  refine s_ret ?_
  refine n_catL ?_
  refine n_var 2 ?_
  refine n_lstU ?_
  refine na_cons ?_
  refine n_fn (r_is_fault T) hr ?_
  refine na_cons ?_
  refine n_var 0 ?_
  refine na_nil ?_
  refine ⟨d, rfl, ?_⟩
  refine na_nil ?_
  exact ⟨_, rfl, rfl, _, _, rfl, rfl, Nat.le_of_ble_eq_true rfl, q⟩
def thingC : Con := fun cs ω Φ => ∃ (n : Nat) (p : Addr), cs = [.raw (.ref p)] ∧ ω[n]? = some (p, bagP) ∧ ∀ d, ShowsN 10000 d → Φ ω (.dat d)
theorem shows_small {v : Int} (h : v.natAbs < 2 ^ 200) : ShowsN 300 (.int v) := (shows_int (k := 200) (by
  by_cases z : v.natAbs = 0
  · rw [z]; decide
  · exact Nat.le_of_lt ((Nat.log2_lt z).mpr h))).mono (by decide)
theorem r_thing (T : Txt K mg) : Rdy P w K mg base 4 "_law_thing" ["bag"] thingC := by
  refine rdy T._law_thing_ sc__law_thing (fun cs ω Φ ⟨n, p, e, _⟩ => by rw [e]; rfl) fun X f cdv A outer s H E hX hr cs ω Φ ⟨n, p, e, hw, q⟩ => ?_
  have hu := room_u64 hr
  subst hX; subst e
  refine b_cons ?_
  refine s_if ?_
  refine nt_eq hu ?_
  refine n_fn (r_take T) hr ?_
  refine na_cons ?_
  refine n_var 0 ?_
  refine na_cons ?_
  refine n_int ?_
  refine na_nil ?_
  refine ⟨n, p, _, rfl, hw, by decide, by decide, fun v _ _ => ?_⟩
  refine n_int ⟨_, _, rfl, rfl, rfl, rfl, ?_⟩
  refine ite2 (fun _ => ?_) (fun _ => ?_)
  · refine b_one ?_
    refine s_ret ?_
    refine n_fn (r_odd T) hr ?_
    refine na_cons ?_
    refine n_var 0 ?_
    refine na_nil ?_
    exact ⟨n, p, rfl, hw, q⟩
  refine b_nil ?_
  refine b_cons ?_
  refine s_set 1 sc__law_thing.nd ?_
  repeat walk_at "dx"
  refine n_sub ?_
  refine n_neg ?_
  refine n_pow ?_
  refine n_int ?_
  refine n_int ?_
  refine ⟨_, _, rfl, rfl, ⟨by decide, by decide, by decide⟩, _, rfl, ?_⟩
  refine n_int ⟨_, _, rfl, rfl, ?_⟩
  repeat walk_at "dx"
  refine b_one ?_
  refine s_ret ?_
  refine n_fn (r_one T) hr ?_
  refine na_cons ?_
  refine n_var 0 ?_
  refine na_cons ?_
  refine n_catL ?_
  refine n_var 1 ?_
  refine n_lstU ?_
  repeat walk_at "dl"
  refine n_sub ?_
  refine n_fn (r_take T) hr ?_
  refine na_cons ?_
  refine n_var 0 ?_
  refine na_cons ?_
  refine n_int ?_
  refine na_nil ?_
  refine ⟨n, p, _, rfl, hw, by decide, by decide, fun v v0 v1 => ?_⟩
  refine n_int ⟨_, _, rfl, rfl, ?_⟩
  refine na_nil ?_
  refine ⟨_, rfl, rfl, _, _, rfl, rfl, Nat.le_of_ble_eq_true rfl, ?_⟩
  refine na_nil ?_
  refine ⟨n, p, _, rfl, hw, List.cons_ne_nil _ _, Nat.le_of_ble_eq_true rfl, fun d hd => q d (showsN_of (List.all_eq_true.mp ?_ d hd))⟩
  exact all_app (by decide +kernel) (all_con (by decide) (all_con (by decide) (all_con (showsC_of ((shows_small (by omega)).mono (by decide))) rfl)))
def ValOk (d : PyData) : Prop := d = .none ∨ (∃ i : Int, d = .int i ∧ i.natAbs < 2 ^ 200) ∨ d ∈ errs
def valC : Con := fun cs ω Φ => ∃ (n : Nat) (p : Addr), cs = [.raw (.ref p)] ∧ ω[n]? = some (p, bagP) ∧ ∀ d, ValOk d → Φ ω (.dat d)
theorem r_drawn_value (T : Txt K mg) : Rdy P w K mg base 3 "_law_drawn_value" ["bag"] valC := by
  refine rdy T._law_drawn_value_ sc__law_drawn_value (fun cs ω Φ ⟨n, p, e, _⟩ => by rw [e]; rfl) fun X f cdv A outer s H E hX hr cs ω Φ ⟨n, p, e, hw, q⟩ => ?_
  have hu := room_u64 hr
  subst hX; subst e
  refine b_cons ?_
  refine s_set 1 sc__law_drawn_value.nd ?_
  repeat walk_at "dx"
  refine n_sub ?_
  refine n_fn (r_take T) hr ?_
  refine na_cons ?_
  refine n_var 0 ?_
  refine na_cons ?_
  refine n_int ?_
  refine na_nil ?_
  refine ⟨n, p, _, rfl, hw, by decide, by decide, fun v v0 v1 => ?_⟩
  refine n_int ⟨_, _, rfl, rfl, ?_⟩
  refine na_nil ?_
  refine ⟨_, rfl, rfl, ?_⟩
  refine b_mid (fun ω' δ' => ω' = ω ∧ ∃ ds, δ' = [some (.raw (.ref p)), some (.dat (.list ds))] ∧ ds ≠ [] ∧ ds.length ≤ 1000 ∧ ∀ d ∈ ds, ValOk d) ?_ ?_
  · have base6 : ∀ d ∈ [PyData.none, .int 0, .int 1, .int (10 ^ Int.toNat 40), .int (-5), .int (v - 50)], ValOk d := by
      intro d hd
      simp only [List.mem_cons, List.not_mem_nil, or_false] at hd
      rcases hd with rfl | rfl | rfl | rfl | rfl | rfl
      · exact .inl rfl
      · exact .inr (.inl ⟨_, rfl, by decide⟩)
      · exact .inr (.inl ⟨_, rfl, by decide⟩)
      · exact .inr (.inl ⟨_, rfl, by decide⟩)
      · exact .inr (.inl ⟨_, rfl, by decide⟩)
      · exact .inr (.inl ⟨_, rfl, by omega⟩)
    refine s_if ?_
    refine nt_gt ?_
    refine n_fn (r_take T) hr ?_
    refine na_cons ?_
    refine n_var 0 ?_
    refine na_cons ?_
    refine n_int ?_
    refine na_nil ?_
    refine ⟨n, p, _, rfl, hw, by decide, by decide, fun v2 _ _ => ?_⟩
    refine n_int ⟨_, _, rfl, rfl, ?_⟩
    refine ite2 (fun _ => ?_) (fun _ => ?_)
    · refine b_one ?_
      refine s_set 1 sc__law_drawn_value.nd ?_
      refine n_catL ?_
      refine n_var 1 ?_
      refine n_lstU ?_
      repeat walk_at "dl"
      refine ⟨_, rfl, rfl, _, _, rfl, rfl, Nat.le_of_ble_eq_true rfl, rfl, _, rfl, List.cons_ne_nil _ _, Nat.le_of_ble_eq_true rfl, fun d hd => ?_⟩
      rcases List.mem_append.mp hd with h | h
      · exact base6 d h
      · exact .inr (.inr h)
    · exact b_nil ⟨rfl, _, rfl, List.cons_ne_nil _ _, Nat.le_of_ble_eq_true rfl, base6⟩
  · rintro ω' δ' ⟨rfl, ds, rfl, h1, h2, h3⟩
    refine b_one ?_
    refine s_ret ?_
    refine n_fn (r_one T) hr ?_
    refine na_cons ?_
    refine n_var 0 ?_
    refine na_cons ?_
    refine n_var 1 ?_
    refine na_nil ?_
    exact ⟨n, p, ds, rfl, hw, h1, h2, fun d hd => q d (h3 d hd)⟩
end

section
variable {P : Program} {w : World} {K : PySem.W.Frag} {mg : Str → Option Value} {base : Heap}
theorem val_plain {d : PyData} (h : ValOk d) : d.canLay0 = true ∧ d.depth = 0 ∧ ShowsN 300 d := by
  rcases h with rfl | ⟨i, rfl, hi⟩ | h
  · exact ⟨rfl, rfl, showsN_of (by decide +kernel)⟩
  · exact ⟨rfl, rfl, shows_small hi⟩
  · simp only [errs, List.mem_cons, List.not_mem_nil, or_false] at h
    rcases h with rfl | rfl | rfl <;> exact ⟨by decide +kernel, rfl, showsN_of (by decide +kernel)⟩
theorem val_of_plain {d : PyData} (h : ValOk d) : ValOk (plainD d) := by
  rcases h with rfl | ⟨i, rfl, hi⟩ | h
  · exact .inr (.inl ⟨0, rfl, by decide⟩)
  · exact .inr (.inl ⟨i, rfl, hi⟩)
  · refine .inr (.inr ?_)
    simp only [errs, List.mem_cons, List.not_mem_nil, or_false] at h
    rcases h with rfl | rfl | rfl <;> simp [errs, plainD]
theorem vals_lay : ∀ {ds : List PyData}, (∀ d ∈ ds, ValOk d) → PyData.canLayAll0 ds = true ∧ PyData.depthAll ds = 0
  | [], _ => ⟨rfl, rfl⟩
  | d :: r, h => by
    obtain ⟨h1, h2⟩ := vals_lay (ds := r) fun e he => h e (List.mem_cons_of_mem _ he)
    obtain ⟨g1, g2, _⟩ := val_plain (h d List.mem_cons_self)
    exact ⟨by show (d.canLay0 && PyData.canLayAll0 r) = true; rw [g1, h1]; rfl, by simp only [PyData.depthAll]; rw [g2, h2]; rfl⟩
theorem vals_shaped {ds : List PyData} (h : ∀ d ∈ ds, ValOk d) : SeqAt.shaped (.list ds) = true := by
  obtain ⟨h1, h2⟩ := vals_lay h
  refine shaped_mk (by simp only [PyData.canLay0]; exact h1) ?_
  simp only [PyData.depth]
  omega
theorem vals_shows {ds : List PyData} (h : ∀ d ∈ ds, ValOk d) (hl : ds.length ≤ 100) : Shows (.list ds) := by
  have q := shows_list (n := 300) (p := 0) (ds := ds) (fun d hd => ⟨(val_plain (h d hd)).2.2, by rw [(val_plain (h d hd)).2.1]; exact Nat.le_refl 0⟩)
  exact (q.mono (m := 40000) (by have : ds.length * (300 + 2) ≤ 100 * 302 := Nat.mul_le_mul_right _ hl; omega)).shows
theorem val_shaped {d : PyData} (h : ValOk d) : SeqAt.shaped d = true := by
  obtain ⟨g1, g2, _⟩ := val_plain h
  exact shaped_mk g1 (by omega)
def headOr : List PyData → PyData
  | [] => .none
  | d :: _ => d
theorem firstErr_filter : ∀ ds : List PyData, firstErr ds = headOr (ds.filter isErrD)
  | [] => rfl
  | d :: r => by
    unfold firstErr
    rw [List.filter_cons]
    split
    · rfl
    · exact firstErr_filter r
theorem firstErr_val {ds : List PyData} (h : ∀ d ∈ ds, ValOk d) : ValOk (firstErr ds) := by
  rw [firstErr_filter]
  cases q : ds.filter isErrD with
  | nil => exact .inl rfl
  | cons x r => exact h x (List.mem_filter.mp (show x ∈ ds.filter isErrD by rw [q]; exact List.mem_cons_self)).1
theorem shows_due (d : PyData) : ShowsN 40 (dueD d) := (shows_list (n := 5) (p := 0) (ds := [.bool (isIntD d), .bool (isNumD d), .bool (isValD d), .bool (isErrD d)]) (by
  intro e he
  simp only [List.mem_cons, List.not_mem_nil, or_false] at he
  rcases he with rfl | rfl | rfl | rfl <;> exact ⟨shows_bool _, Nat.le_refl 0⟩)).mono (Nat.le_of_ble_eq_true rfl)
theorem shows_due2 (d : PyData) : Shows (.list [dueD d, dueD d]) := (shows_list (n := 40) (p := 1) (ds := [dueD d, dueD d]) (by
  intro e he
  simp only [List.mem_cons, List.not_mem_nil, or_false] at he
  rcases he with rfl | rfl <;> exact ⟨shows_due d, Nat.le_refl 1⟩)).shows (Nat.le_of_ble_eq_true rfl)
def Inv11 (p : Addr) (ns : List Int) : Nat → Ow → DL.Env → Prop := fun _ ω' δ' => ω' = [(p, bagP)] ∧ ∃ x2 x3 x4 x5 x6 x7 x8 x9 x10 x11, δ' = [some (.scr ns), some (.raw (.ref p)), x2, x3, x4, x5, x6, x7, x8, x9, x10, x11]
theorem law_ok {f : Addr} {fd : FuncData} (F : Fun K "law" "law" s_law f fd) (T : Txt K mg) (hsm : ∃ m, base.Ns sysModules m) : FnG P w K mg base 9 f fd ["script"] (spD K lawC) := by
  refine okG F sc_law (fun cs ω Φ h => lawC_len h) fun X cdv A outer s H E hX hg hr cs ω Φ ⟨ns, e, hn, hω, q⟩ => ?_
  have hu := room_u64 hr
  have hu2 := room_u hr
  subst hX; subst e; subst hω
  -- bag = _law_bag(script)
  refine b_cons ?_
  refine s_set 1 sc_law.nd ?_
  refine n_fn (r_bag T) hr ?_
  refine na_cons ?_
  refine n_var 0 ?_
  refine na_nil ?_
  refine ⟨ns, rfl, fun p => ?_⟩
  -- if repr(_law_asked(_law_nested(28))) != repr([False] * 4)
  refine b_cons ?_
  refine s_if ?_
  refine nt_neS ?_
  refine n_repr hg hsm hu2 T.z_repr ?_
  refine n_fn (r_asked T) hr ?_
  refine na_cons ?_
  refine n_fn (r_nested T) hr ?_
  refine na_cons ?_
  refine n_int ?_
  refine na_nil ?_
  refine ⟨28, rfl, by decide, na_nil ⟨_, rfl, _, rfl, (shows_due _).shows, ?_⟩⟩
  refine n_repr hg hsm hu2 T.z_repr ?_
  refine n_repL ?_
  refine n_lstU ?_
  refine na_cons ?_
  refine n_bl ?_
  refine na_nil ?_
  refine ⟨_, rfl, rfl, ?_⟩
  refine n_int ⟨_, _, rfl, rfl, by decide, by decide, by decide, ?_⟩
  refine ⟨_, rfl, (shows_due (nestD 28)).shows, ?_⟩
  refine ⟨_, _, rfl, rfl, ?_⟩
  refine ite2 (fun h => ?_) (fun _ => ?_)
  · have e : (dueD (nestD 28)).shown = (dueD (nestD 28)).shown := rfl
    exact absurd h (by rw [show ((PyData.list (List.replicate (Int.toNat 4) [PyData.bool false]).flatten).shown) = (dueD (nestD 28)).shown from rfl, decide_eq_true rfl]; decide)
  refine b_nil ?_
  -- for turn in range(12)
  refine b_cons ?_
  refine s_forR 2 PassesOwn.never rfl sc_law.nd T.z_range ?_
  refine n_int ?_
  refine ⟨12, rfl, by decide, by decide, Inv11 p ns, ⟨rfl, none, none, none, none, none, none, none, none, none, none, rfl⟩, ?_, ?_⟩
  rotate_left
  · rintro ω' δ' ⟨rfl, x2, x3, x4, x5, x6, x7, x8, x9, x10, x11, rfl⟩
    refine b_one ?_
    refine s_ret ?_
    refine n_drop ?_
    refine n_bl ?_
    exact ⟨p, bagP, [], rfl, q⟩
  rintro i ω' δ' hi ⟨rfl, x2, x3, x4, x5, x6, x7, x8, x9, x10, x11, rfl⟩
  -- thing = _law_thing(bag)
  refine b_cons ?_
  refine s_set 3 sc_law.nd ?_
  refine n_fn (r_thing T) hr ?_
  refine na_cons ?_
  refine n_var 1 ?_
  refine na_nil ?_
  refine ⟨0, p, rfl, rfl, fun d hd => ?_⟩
  -- due, shown = (_law_due(thing), repr(thing))
  refine b_cons ?_
  refine s_par 4 5 rfl sc_law.nd ?_
  refine na_cons ?_
  refine n_fn (r_due T) hr ?_
  refine na_cons ?_
  refine n_var 3 ?_
  refine na_nil ?_
  refine ⟨d, rfl, ?_⟩
  refine na_cons ?_
  refine n_repr hg hsm hu2 T.z_repr ?_
  refine n_var 3 ?_
  refine ⟨d, rfl, hd.shows, ?_⟩
  refine na_nil ?_
  refine ⟨_, _, rfl, ?_⟩
  -- if repr([..]) != repr([..]) or repr(thing) != shown
  refine b_cons ?_
  refine s_if ?_
  refine nt_or ?_
  refine nt_neS ?_
  refine n_repr hg hsm hu2 T.z_repr ?_
  refine n_lstU ?_
  refine na_cons ?_
  refine n_fn (r_asked T) hr ?_
  refine na_cons ?_
  refine n_var 3 ?_
  refine na_nil ?_
  refine ⟨d, rfl, ?_⟩
  refine na_cons ?_
  refine n_fn (r_asked T) hr ?_
  refine na_cons ?_
  refine n_var 3 ?_
  refine na_nil ?_
  refine ⟨d, rfl, ?_⟩
  refine na_nil ?_
  refine ⟨_, rfl, rfl, _, rfl, shows_due2 d, ?_⟩
  refine n_repr hg hsm hu2 T.z_repr ?_
  refine n_lstU ?_
  refine na_cons ?_
  refine n_var 4 ?_
  refine na_cons ?_
  refine n_var 4 ?_
  refine na_nil ?_
  refine ⟨_, rfl, rfl, _, rfl, shows_due2 d, _, _, rfl, rfl, ?_⟩
  refine ite2 (fun h => absurd h (by rw [decide_eq_true rfl]; decide)) (fun _ => ?_)
  refine nt_neS ?_
  refine n_repr hg hsm hu2 T.z_repr ?_
  refine n_var 3 ?_
  refine ⟨d, rfl, hd.shows, ?_⟩
  refine n_var 5 ?_
  refine ⟨_, _, rfl, rfl, ?_⟩
  refine ite2 (fun h => absurd h (by rw [decide_eq_true rfl]; decide)) (fun _ => ?_)
  refine b_nil ?_
  -- some = [_law_drawn_value(bag) for k in range(..)]
  refine b_cons (s_lcR 6 7 rfl sc_law.nd T.z_range (blkOk_by (N := N_law) (sc := defScope s_law) (by decide +kernel)) ?_ (fun s' H' C cl fp => pg_name (i := 7) sc_law.nd rfl (Or.inl rfl)))
  refine n_fn (r_take T) hr ?_
  refine na_cons ?_
  refine n_var 1 ?_
  refine na_cons ?_
  refine n_fn (r_one T) hr ?_
  refine na_cons ?_
  refine n_var 1 ?_
  refine na_cons ?_
  refine n_lstU ?_
  repeat walk_at "dl"
  refine ⟨_, rfl, rfl, na_nil ⟨0, p, _, rfl, rfl, List.cons_ne_nil _ _, Nat.le_of_ble_eq_true rfl, fun dm hdm => ?_⟩⟩
  obtain ⟨m, rfl, m1, m2⟩ : ∃ m : Int, dm = .int m ∧ 1 ≤ m ∧ m ≤ 31 := by
    simp only [List.mem_cons, List.not_mem_nil, or_false] at hdm
    rcases hdm with rfl | rfl | rfl
    · exact ⟨5, rfl, by decide, by decide⟩
    · exact ⟨5, rfl, by decide, by decide⟩
    · exact ⟨31, rfl, by decide, by decide⟩
  refine na_nil ⟨0, p, m, rfl, rfl, m1, by omega, fun v v0 v1 => ?_⟩
  refine ⟨v, rfl, by omega, by omega, fun i ω2 acc => ω2 = [(p, bagP)] ∧ acc.length = i ∧ ∀ d ∈ acc, ValOk d, ⟨rfl, rfl, by simp⟩, ?_, ?_⟩
  · rintro i ω2 acc D hi ⟨rfl, hl, hv⟩ s' H' C cl fp
    refine n_fn (r_drawn_value T) hr ?_
    refine na_cons ?_
    refine n_var 1 ?_
    refine na_nil ?_
    refine ⟨1, p, rfl, rfl, fun d2 h2 => ⟨d2, rfl, by omega, _, rfl, rfl, by rw [List.length_append, hl]; rfl, ?_⟩⟩
    intro y hy
    rcases List.mem_append.mp hy with hy | hy
    · exact hv y hy
    · rw [List.mem_singleton.mp hy]; exact h2
  rintro ω2 ds ⟨rfl, hl, hv⟩
  -- if _law_take(bag, 3) == 0: some = [..] + some
  refine b_mid (fun ω' δ' => ω' = [(p, bagP)] ∧ ∃ x2 x3 x4 x5 x7 x8 x9 x10 x11 ds, δ' = [some (.scr ns), some (.raw (.ref p)), x2, x3, x4, x5, some (.dat (.list ds)), x7, x8, x9, x10, x11] ∧ ds.length ≤ 62 ∧ ∀ d ∈ ds, ValOk d) ?_ ?_
  · refine s_if ?_
    refine nt_eq hu ?_
    refine n_fn (r_take T) hr ?_
    refine na_cons ?_
    refine n_var 1 ?_
    refine na_cons ?_
    refine n_int ?_
    refine na_nil ?_
    refine ⟨0, p, _, rfl, rfl, by decide, by decide, fun v3 _ _ => ?_⟩
    refine n_int ⟨_, _, rfl, rfl, rfl, rfl, ?_⟩
    refine ite2 (fun _ => ?_) (fun _ => ?_)
    · refine b_one ?_
      refine s_set 6 sc_law.nd ?_
      refine n_catL ?_
      refine n_lcLi 8 rfl sc_law.nd (blkOk_by (N := N_law) (sc := defScope s_law) (by decide +kernel)) ?_ (fun s' H' C cl fp => pg_name (i := 8) sc_law.nd rfl (Or.inl rfl))
      refine n_var 6 ?_
      refine ⟨ds, rfl, fun i ω2 acc => ω2 = [(p, bagP)] ∧ acc.length ≤ i ∧ ∀ d ∈ acc, ValOk d, ⟨rfl, Nat.le_refl 0, by simp⟩, ?_, ?_⟩
      · rintro i ω2 acc D d0 hd0 ⟨rfl, ha, hva⟩ s' H' C cl fp
        refine nt_not ?_
        refine nt_val ?_
        refine n_fn (r_is_fault T) hr ?_
        refine na_cons ?_
        refine n_var 8 ?_
        refine na_nil ?_
        refine ⟨d0, rfl, _, rfl, ?_⟩
        refine ite2 (fun _ => ?_) (fun _ => ?_)
        · intro s2 H2 C2 cl2 fp2
          refine n_var 8 ?_
          have hi := (List.getElem?_eq_some_iff.mp hd0).1
          refine ⟨d0, rfl, by omega, _, rfl, rfl, by rw [List.length_append, List.length_singleton]; omega, ?_⟩
          intro y hy
          rcases List.mem_append.mp hy with hy | hy
          · exact hva y hy
          · rw [List.mem_singleton.mp hy]; exact hv d0 (List.mem_of_getElem? hd0)
        · exact ⟨_, rfl, rfl, by omega, hva⟩
      · rintro ω2 acc ⟨rfl, ha, hva⟩
        refine n_var 6 ?_
        refine ⟨_, _, rfl, rfl, by omega, rfl, _, _, _, _, _, _, _, _, _, _, rfl, by rw [List.length_append]; omega, ?_⟩
        intro y hy
        rcases List.mem_append.mp hy with hy | hy
        · exact hva y hy
        · exact hv y hy
    · exact b_nil ⟨rfl, _, _, _, _, _, _, _, _, _, ds, rfl, by omega, hv⟩
  clear hv hl
  rintro ω' δ' ⟨rfl, x2, x3, x4, x5, x7, x8, x9, x10, x11, ds, rfl, hl, hv⟩
  -- faults = [one for one in some if _law_is_fault(one)]
  refine b_cons (s_lcLi 9 8 rfl sc_law.nd (blkOk_by (N := N_law) (sc := defScope s_law) (by decide +kernel)) ?_ (fun s' H' C cl fp => pg_name (i := 8) sc_law.nd rfl (Or.inl rfl)))
  refine n_var 6 ?_
  refine ⟨ds, rfl, fun i ω2 acc => ω2 = [(p, bagP)] ∧ acc = (ds.take i).filter isErrD, ⟨rfl, rfl⟩, ?_, ?_⟩
  · rintro i ω2 acc D d0 hd0 ⟨rfl, rfl⟩ s' H' C cl fp
    refine nt_val ?_
    refine n_fn (r_is_fault T) hr ?_
    refine na_cons ?_
    refine n_var 8 ?_
    refine na_nil ?_
    refine ⟨d0, rfl, _, rfl, ?_⟩
    refine ite2 (fun h => ?_) (fun h => ?_)
    · intro s2 H2 C2 cl2 fp2
      refine n_var 8 ?_
      have h1 := List.length_filter_le isErrD (ds.take i)
      rw [List.length_take] at h1
      refine ⟨d0, rfl, by omega, _, rfl, rfl, ?_⟩
      rw [take_filter hd0, if_pos h]
    · refine ⟨_, rfl, rfl, ?_⟩
      rw [take_filter hd0, if_neg h, List.append_nil]
  rintro ω2 fs ⟨rfl, hfs⟩
  rw [List.take_length] at hfs
  -- wanted = [0 if one is None else one for one in some]
  refine b_cons (s_lcL 10 8 rfl sc_law.nd (blkOk_by (N := N_law) (sc := defScope s_law) (by decide +kernel)) ?_ (fun s' H' C cl fp => pg_name (i := 8) sc_law.nd rfl (Or.inl rfl)))
  refine n_var 6 ?_
  refine ⟨ds, rfl, fun i ω2 acc => ω2 = [(p, bagP)] ∧ acc = (ds.take i).map plainD, ⟨rfl, rfl⟩, ?_, ?_⟩
  · rintro i ω2 acc D d0 hd0 ⟨rfl, rfl⟩ s' H' C cl fp
    have hi := (List.getElem?_eq_some_iff.mp hd0).1
    have hz : ((ds.take i).map plainD).length < 100000 := by rw [List.length_map, List.length_take]; omega
    refine n_ifx (ΦT := fun _ _ => True) ?_
    refine nt_isN ?_
    refine n_var 8 ?_
    refine ⟨d0, rfl, ?_⟩
    refine ite2 (fun h => ?_) (fun h => ?_)
    · refine n_int ?_
      refine ⟨_, rfl, hz, _, rfl, rfl, ?_⟩
      rw [take_map hd0]
      cases d0 <;> first | rfl | cases h
    · refine n_var 8 ?_
      refine ⟨_, rfl, hz, _, rfl, rfl, ?_⟩
      rw [take_map hd0]
      cases d0 <;> first | rfl | exact absurd rfl h
  rintro ω2 ws ⟨rfl, hws⟩
  rw [List.take_length] at hws
  subst hws
  -- for again in range(2)
  refine b_one ?_
  refine s_forR 11 PassesOwn.never rfl sc_law.nd T.z_range ?_
  refine n_int ?_
  refine ⟨2, rfl, by decide, by decide, fun _ ω' δ' => ω' = [(p, bagP)] ∧ ∃ x11, δ' = [some (.scr ns), some (.raw (.ref p)), x2, x3, x4, x5, some (.dat (.list ds)), x7, x8, some (.dat (.list fs)), some (.dat (.list (ds.map plainD))), x11], ⟨rfl, _, rfl⟩, ?_, ?_⟩
  rotate_left
  · rintro ω' δ' ⟨rfl, x11, rfl⟩
    exact ⟨rfl, _, _, _, _, _, _, _, _, _, _, rfl⟩
  rintro i ω' δ' hi ⟨rfl, x11, rfl⟩
  have hwant : ∀ d ∈ ds.map plainD, ValOk d := fun d hd => by
    obtain ⟨e, he, rfl⟩ := List.mem_map.mp hd
    exact val_of_plain (hv e he)
  have hfv : ∀ d ∈ fs, ValOk d := fun d hd => hv d (List.mem_filter.mp (by rw [← hfs]; exact hd)).1
  -- if not _law_alike(first_error(some), faults[0] if faults != [] else None)
  refine b_cons ?_
  refine s_if ?_
  refine nt_not ?_
  refine nt_val ?_
  refine n_fnG (r_alike T hsm) hg hr ?_
  refine na_cons ?_
  refine n_fn (r_first_error T) hr ?_
  refine na_cons ?_
  refine n_var 6 ?_
  refine na_nil ?_
  refine ⟨ds, rfl, ?_⟩
  refine na_cons ?_
  refine N.imp (Φ := fun ω1 c => ω1 = [(p, bagP)] ∧ c = .dat (firstErr ds)) ?_ ?_
  · refine n_ifx (ΦT := fun _ _ => True) ?_
    refine nt_ne hu ?_
    refine n_var 9 ?_
    refine n_lstU ?_
    refine na_nil ?_
    refine ⟨[], rfl, rfl, _, _, rfl, rfl, vals_shaped hfv, rfl, ?_⟩
    rw [firstErr_filter, ← hfs]
    cases fs with
    | nil =>
      refine ite2 (fun h => absurd h (by decide)) (fun _ => ?_)
      refine n_non ?_
      exact ⟨rfl, rfl⟩
    | cons x r =>
      refine ite2 (fun _ => ?_) (fun h => absurd (by simp [PyData.eqv, PyData.eqvAll]) h)
      refine n_ixl (fun _ _ => rfl) ?_
      refine n_var 9 ?_
      refine n_int ?_
      exact ⟨_, _, x, rfl, rfl, atI_nat (j := 0) rfl, rfl, rfl⟩
  rintro ω1 c ⟨rfl, rfl⟩
  have hfe := firstErr_val hv
  refine na_nil ⟨firstErr ds, rfl, val_shaped hfe, ((val_plain hfe).2.2).shows, true, rfl, ?_⟩
  refine iteF (b_nil ?_)
  -- if not _law_alike([plain(one) for one in some], wanted)
  refine b_one ?_
  refine s_if ?_
  refine nt_not ?_
  refine nt_val ?_
  refine n_fnG (r_alike T hsm) hg hr ?_
  refine na_cons ?_
  refine n_lcL 8 rfl sc_law.nd (blkOk_by (N := N_law) (sc := defScope s_law) (by decide +kernel)) ?_ (fun s' H' C cl fp => pg_name (i := 8) sc_law.nd rfl (Or.inl rfl))
  refine n_var 6 ?_
  refine ⟨ds, rfl, fun i ω2 acc => ω2 = [(p, bagP)] ∧ acc = (ds.take i).map plainD, ⟨rfl, rfl⟩, ?_, ?_⟩
  · rintro i ω2 acc D d0 hd0 ⟨rfl, rfl⟩ s' H' C cl fp
    have hi := (List.getElem?_eq_some_iff.mp hd0).1
    have hz : ((ds.take i).map plainD).length < 100000 := by rw [List.length_map, List.length_take]; omega
    refine n_fn (r_plain T) hr ?_
    refine na_cons ?_
    refine n_var 8 ?_
    refine na_nil ?_
    exact ⟨d0, rfl, _, rfl, hz, _, rfl, rfl, (take_map hd0).symm⟩
  rintro ω2 ws ⟨rfl, hws⟩
  rw [List.take_length] at hws
  subst hws
  refine na_cons ?_
  refine n_var 10 ?_
  refine na_nil ?_
  refine ⟨_, rfl, vals_shaped hwant, vals_shows hwant (by rw [List.length_map]; omega), true, rfl, ?_⟩
  exact iteF (b_nil ⟨rfl, _, rfl⟩)
end

end K11

open PySem PySem.W PyProof.Rows L2 DL
set_option maxRecDepth 100000 in
set_option maxHeartbeats 0 in
theorem PySem.Challenge.cw_longsheet_k11_values_known_holds : PySem.Challenge.rw_longsheet_k11_values_known.Holds := by
  w_on; o_law; k_head; (case hw => w_witness2)
  k_fill
  refine DL.law_end (l := PySem.Challenge.rw_longsheet_k11_values_known) (k := 9) (x := "script") rfl rfl ⟨rfl, by decide, by decide⟩ (fun w h Y => PySem.W.kIn_of Y) (by decide +kernel) ?F
  case F =>
    intro w mg fa h KX G hmg
    have f_is_integer : Has (KOf KX) mg "is_integer" K11.s_is_integer ["thing"] := by
      delta L2.KOf
      refine' has_mk KX G ?a ?l ?c ?k (fun _ _ _ _ _ _ us hl => match us, hl with | [_], _ => rfl)
      (case a => k_is); (case l => k_is); (case c => k_is); (case k => k_is)
    have f_is_number : Has (KOf KX) mg "is_number" K11.s_is_number ["thing"] := by
      delta L2.KOf
      refine' has_mk KX G ?a ?l ?c ?k (fun _ _ _ _ _ _ us hl => match us, hl with | [_], _ => rfl)
      (case a => k_is); (case l => k_is); (case c => k_is); (case k => k_is)
    have f_is_value : Has (KOf KX) mg "is_value" K11.s_is_value ["thing"] := by
      delta L2.KOf
      refine' has_mk KX G ?a ?l ?c ?k (fun _ _ _ _ _ _ us hl => match us, hl with | [_], _ => rfl)
      (case a => k_is); (case l => k_is); (case c => k_is); (case k => k_is)
    have f_is_error : Has (KOf KX) mg "is_error" K11.s_is_error ["thing"] := by
      delta L2.KOf
      refine' has_mk KX G ?a ?l ?c ?k (fun _ _ _ _ _ _ us hl => match us, hl with | [_], _ => rfl)
      (case a => k_is); (case l => k_is); (case c => k_is); (case k => k_is)
    have f_plain : Has (KOf KX) mg "plain" K11.s_plain ["value"] := by
      delta L2.KOf
      refine' has_mk KX G ?a ?l ?c ?k (fun _ _ _ _ _ _ us hl => match us, hl with | [_], _ => rfl)
      (case a => k_is); (case l => k_is); (case c => k_is); (case k => k_is)
    have f_first_error : Has (KOf KX) mg "first_error" K11.s_first_error ["values"] := by
      delta L2.KOf
      refine' has_mk KX G ?a ?l ?c ?k (fun _ _ _ _ _ _ us hl => match us, hl with | [_], _ => rfl)
      (case a => k_is); (case l => k_is); (case c => k_is); (case k => k_is)
    have f__law_bag : Has (KOf KX) mg "_law_bag" K11.s__law_bag ["script"] := by
      delta L2.KOf
      refine' has_mk KX G ?a ?l ?c ?k (fun _ _ _ _ _ _ us hl => match us, hl with | [_], _ => rfl)
      (case a => k_is); (case l => k_is); (case c => k_is); (case k => k_is)
    have f__law_take : Has (KOf KX) mg "_law_take" K11.s__law_take ["bag", "many"] := by
      delta L2.KOf
      refine' has_mk KX G ?a ?l ?c ?k (fun _ _ _ _ _ _ us hl => match us, hl with | [_, _], _ => rfl)
      (case a => k_is); (case l => k_is); (case c => k_is); (case k => k_is)
    have f__law_one : Has (KOf KX) mg "_law_one" K11.s__law_one ["bag", "some"] := by
      delta L2.KOf
      refine' has_mk KX G ?a ?l ?c ?k (fun _ _ _ _ _ _ us hl => match us, hl with | [_, _], _ => rfl)
      (case a => k_is); (case l => k_is); (case c => k_is); (case k => k_is)
    have f__law_alike : Has (KOf KX) mg "_law_alike" K11.s__law_alike ["found", "due"] := by
      delta L2.KOf
      refine' has_mk KX G ?a ?l ?c ?k (fun _ _ _ _ _ _ us hl => match us, hl with | [_, _], _ => rfl)
      (case a => k_is); (case l => k_is); (case c => k_is); (case k => k_is)
    have f__law_nested : Has (KOf KX) mg "_law_nested" K11.s__law_nested ["many"] := by
      delta L2.KOf
      refine' has_mk KX G ?a ?l ?c ?k (fun _ _ _ _ _ _ us hl => match us, hl with | [_], _ => rfl)
      (case a => k_is); (case l => k_is); (case c => k_is); (case k => k_is)
    have f__law_odd : Has (KOf KX) mg "_law_odd" K11.s__law_odd ["bag"] := by
      delta L2.KOf
      refine' has_mk KX G ?a ?l ?c ?k (fun _ _ _ _ _ _ us hl => match us, hl with | [_], _ => rfl)
      (case a => k_is); (case l => k_is); (case c => k_is); (case k => k_is)
    have f__law_is_whole : Has (KOf KX) mg "_law_is_whole" K11.s__law_is_whole ["thing"] := by
      delta L2.KOf
      refine' has_mk KX G ?a ?l ?c ?k (fun _ _ _ _ _ _ us hl => match us, hl with | [_], _ => rfl)
      (case a => k_is); (case l => k_is); (case c => k_is); (case k => k_is)
    have f__law_is_fault : Has (KOf KX) mg "_law_is_fault" K11.s__law_is_fault ["thing"] := by
      delta L2.KOf
      refine' has_mk KX G ?a ?l ?c ?k (fun _ _ _ _ _ _ us hl => match us, hl with | [_], _ => rfl)
      (case a => k_is); (case l => k_is); (case c => k_is); (case k => k_is)
    have f__law_due : Has (KOf KX) mg "_law_due" K11.s__law_due ["thing"] := by
      delta L2.KOf
      refine' has_mk KX G ?a ?l ?c ?k (fun _ _ _ _ _ _ us hl => match us, hl with | [_], _ => rfl)
      (case a => k_is); (case l => k_is); (case c => k_is); (case k => k_is)
    have f__law_asked : Has (KOf KX) mg "_law_asked" K11.s__law_asked ["thing"] := by
      delta L2.KOf
      refine' has_mk KX G ?a ?l ?c ?k (fun _ _ _ _ _ _ us hl => match us, hl with | [_], _ => rfl)
      (case a => k_is); (case l => k_is); (case c => k_is); (case k => k_is)
    have f__law_thing : Has (KOf KX) mg "_law_thing" K11.s__law_thing ["bag"] := by
      delta L2.KOf
      refine' has_mk KX G ?a ?l ?c ?k (fun _ _ _ _ _ _ us hl => match us, hl with | [_], _ => rfl)
      (case a => k_is); (case l => k_is); (case c => k_is); (case k => k_is)
    have f__law_drawn_value : Has (KOf KX) mg "_law_drawn_value" K11.s__law_drawn_value ["bag"] := by
      delta L2.KOf
      refine' has_mk KX G ?a ?l ?c ?k (fun _ _ _ _ _ _ us hl => match us, hl with | [_], _ => rfl)
      (case a => k_is); (case l => k_is); (case c => k_is); (case k => k_is)
    have f_law : Has (KOf KX) mg "law" K11.s_law ["script"] := by
      delta L2.KOf
      refine' has_mk KX G ?a ?l ?c ?k (fun _ _ _ _ _ _ us hl => match us, hl with | [_], _ => rfl)
      (case a => k_is); (case l => k_is); (case c => k_is); (case k => k_is)
    have z_isinstance : mg "isinstance" = none := PySem.W.mg_none_of KX G (by k_is)
    have z_int : mg "int" = none := PySem.W.mg_none_of KX G (by k_is)
    have z_bool : mg "bool" = none := PySem.W.mg_none_of KX G (by k_is)
    have z_str : mg "str" = none := PySem.W.mg_none_of KX G (by k_is)
    have z_len : mg "len" = none := PySem.W.mg_none_of KX G (by k_is)
    have z_range : mg "range" = none := PySem.W.mg_none_of KX G (by k_is)
    have z_abs : mg "abs" = none := PySem.W.mg_none_of KX G (by k_is)
    have z_repr : mg "repr" = none := PySem.W.mg_none_of KX G (by k_is)
    have c_FARTHEST : CD (KOf KX) mg "FARTHEST" (.int 1000000000000) := by (delta L2.KOf; exact cd_int KX G (by k_is))
    have c_ERRORS : CD (KOf KX) mg "ERRORS" (.tuple [.str "#lost", .str "#ring", .str "#zero"]) := by (delta L2.KOf; refine' cd_tup KX G ?e ?l ?r; (case e => k_is); (case l => k_is); (case r => exact .cons (.str _ _) (.cons (.str _ _) (.cons (.str _ _) .nil))))
    have T : K11.Txt (KOf KX) mg := ⟨f_is_integer, f_is_number, f_is_value, f_is_error, f_plain, f_first_error, f__law_bag, f__law_take, f__law_one, f__law_alike, f__law_nested, f__law_odd, f__law_is_whole, f__law_is_fault, f__law_due, f__law_asked, f__law_thing, f__law_drawn_value, f_law, z_isinstance, z_int, z_bool, z_str, z_len, z_range, z_abs, z_repr, c_FARTHEST, c_ERRORS⟩
    obtain ⟨f, fd, F, hf, hb⟩ := f_law.ex
    have e := hmg.symm.trans hf
    cases e
    exact ⟨fd, law_binds F (fun _ _ _ _ _ _ _ => rfl), fun base _ _ hsm => K11.law_ok F T hsm⟩
