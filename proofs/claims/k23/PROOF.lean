import PyProof.Rows.All
import KE.KIsAll
import KE.KDictList
import KE.KSortTup
import KE.IntBitsLaws
import PySem.Challenge.RW_drawndown_k23_showings
set_option compiler.extract_closed false
set_option Elab.async false
set_option linter.all false
set_option maxRecDepth 100000
set_option maxHeartbeats 1000000
set_option exponentiation.threshold 5000
theorem aDe_(_:True:=by decide):True:=trivial
def aDe:Lean.Syntax:=aDe_._auto_1
theorem aLr_(_:True:=by first | exact .inl rfl | exact .inr rfl | assumption):True:=trivial
def aLr:Lean.Syntax:=aLr_._auto_1
theorem aOr_(_:True:=by first | exact Or.inl rfl | exact Or.inr rfl):True:=trivial
def aOr:Lean.Syntax:=aOr_._auto_1
theorem aIr_(_:True:=by intro z;rfl):True:=trivial
def aIr:Lean.Syntax:=aIr_._auto_1
theorem aRf_(_:True:=by rfl):True:=trivial
def aRf:Lean.Syntax:=aRf_._auto_1
theorem aWu_(_:True:=by with_unfolding_all rfl):True:=trivial
def aWu:Lean.Syntax:=aWu_._auto_1
section
namespace Zd
def zTab:String:="none
some # $1
.int # $1
true
some .int # $1 $1

\"Prop &1prop
List Int $1
some d $1
# Int :
.ok # s $2
some e $1

.tup # $1
# Str :
vr rfl $1
false
zd '1 $1

# \". length &3proj
zd '0 $1
.ok .int # $1 s $2
xs.length
List D $1
.ref # $1
v.length
eC .int '0 $1 $1
autoParam # aRf $2
.inl # $1
# \". bind &3proj # $1
eC .int # $1 $1
some # $1 none [2
# @0 \"[ # \"] @0 \"? %7term__[_]_? some # $1 `=
.ok .nx # $1 # $2
.ok # s1 $2
some .loc l $1 $1
zc '1 $1
s.heap
gm X $1
Inv X ae O H s $5
rD v $1
zd '2 $1
zc '0 $1
base
zu # # zj # $1 $3
.inr # $1
.int i $1
id rfl $1
PE X # # $3
.lst # $1
RE X E # # $4
\"( ! &2hygienicLParen # Str : \", # @1 @3 \") &3tuple
# Nat : Int :
.none
x hx # \\2
some .loc s.length $1 $1
\"if # \"then # \"else .no %6termIfThenElse
.tup xs $1
.ref a $1
eC .int '1 $1 $1
Hs P w K mg base CX0 # # # $9
\"\"lot\" %1str
\"if # # `= \"then # \"else # %6termIfThenElse
# @0 \"[ i \"] @0 \"? %7term__[_]_? some # $1 `=
_l * $1
\"if # \"then # \"else # %6termIfThenElse
List Addr $1
.ref C $1
List Str $1
.type # $1
# # <2
s.heap.objs.size
outer
qual
starEach # X.env $2
eOp dIx zd # $1 zd # $1 $3
f ρ s $2
X.env
.non
at0 p # $2
zc '2 $1
.str # $1
L.length
\"if # true `= \"then # \"else # %6termIfThenElse
List V $1
# rfl # <3
List Expr $1
# \". trans &3proj # $1
r.length
some .lst # $1 $1
ze # zb # zi $2 $2
.ok .nx # $1 s $2
some .int j $1 $1
D.int # $1
Lot n v $2
deal r v $2 \". \"1 %1fieldIdx &3proj
d3 a b c # # # # # # $9
List.range # $1 \". map &3proj # $1
Option Value $1
X.prog
s.length
zI # # # # * * * # \\3 # * * * # \\3 * * * # \\3 $8
sizeLine
# \". natAbs &3proj
zb # zi $2
.str x $1
fIf # # yU $3
# # # <3
# [0 `≠
ps.length
zy # zy # # $2 $2
.ok .tup # $1 s $2
ze # zb zd '0 $1 zi $2 $2
# List Str $1 : \". Nodup &3proj
.ok # s2 $2
Or.inl rfl $1
some .int b $1 $1
gp v $1
Sz n $1
eOp xf # # $3
# \". getD &3proj # '0 $2
some .int k $1 $1
Sto R D $1 ^
s L.map rL $1 [1 `++
* # \\1
decide # $1
Or.inr rfl $1
uw rfl $1
some rD v $1 $1
zd '3 $1
Option # $1
# # # rfl # <5
p hp # \\2
T.length
v.getD # '0 $2
some rD # $1 $1
.ok .lst # $1 s $2
.lst xs $1
.str nmR r $1 $1
.ok # s' $2
zD yE # # $3
one n $1
some .int n $1 $1
\"Type @0 &2type
.int # # $2
scope
some .loc # $1 $1
some .int v.length $1 $1
iL # $1 [1
\"∀ b o @2 @0 \", # &5forall
'2000
eC .str # $1 $1
aN zc '0 $1 zg $2
.lst iL # $1 $1
absurd # # $2
\"\"_law_lot_here\" %1str
* # # <3
wpAny model X.prog X.w $2 X.A # # X.xe # $6
_g # # <2 $1
.lst vs $1
List Str # `× $1
some v $1
Hp \"Prop &1prop ^
zc '3 $1
.free
List Value $1
X.calm true `=
Value Shared \"Prop &1prop ^ ^
yD T.q # rfl $2 # hr hc # \\2 # $4
v.getD i '0 $2
aN zc '1 $1 zg $2
ui v $1
iL v $1
# \". elim &3proj
\"\"_law_number\" %1str
zb zd # $1 zi $2
ρ s # \". bind &3proj # $1 \\2
.ok .bl # $1 s $2
zb # zb # zi $2 $2
at2 L # a $3
* # rfl <3
upd H # # $3
.ref p $1
ze yC zb zd '0 $1 zi $2 $2
.int # t $2
Bool
# # # # <4
# rfl <2
some tD # $1 $1
.tup .int # $1 # # [3 $1
eOp dIx # # $3
autoParam # false `= aDe $2
some .int i $1 $1
aO # zg $2
aQ # zg $2
H a $1 some # $1 `=
.int '0 $1
b hb # \\2
\"\"line\" %1str
\"\"rule\" %1str
aN zc # $1 zg $2
decide # # `≠ $1
.ok .bl true $1 s $2
o # # <3
yg X N' scope ex s H $6
.nil
L.getD # [0 $2
Array Value $1
wpAny model prog # $2 # # # # # $6
left v # # $3
d3 a # # # # # # # # $9
d3 a b # # # # # # # $9
h.get? # $1 some o $1 `=
Mof # '2 # $3
ze # zb zd '0 $1 zb zd '1 $1 zi $2 $2 $2
y hy # \\2
ys.length
\"\"__debug__\" %1str Str :
Inv X ae O # # $5
aN zc # $1 aN zc # $1 zg $2 $2
ls.map rD $1
r.getD # '0 $2
.int # $1 .int # $1 [2
_h.mp # $1 \". \"1 %1fieldIdx &3proj
zQ zd '0 $1 $1
some d $1 [1
H b $1 some # $1 `=
OpF X E r # $4
Mof # '1 # $3
zh zW # # # $3 zh # # $2 $2
\"\"tuple\" %1str
others v $1
faC # faC # # $2 $2
\"\"thing\" %1str [1
.ok .bl false $1 s $2
.inl rfl $1
zn zP # $1 $1
dIx # .int # $1 # $3
ze # zb zd '0 $1 zb # zi $2 $2 $2
.loc l $1
zj st $1
zh # zn zP # $1 $1 $2
x.natAbs '2 # `^ `<
_s e $1
# \". push &3proj # $1
r hr # \\2
eOp dIx zd # $1 # $3
D.flat.flats # $1 true `=
.type \"\"list\" %1str $1
okR.bind # $1 \". imp &3proj # $1
Option Int $1
tOf eOp # zd # $1 # $3 $1
\"\"rule\" %1str \"\"lot\" %1str [2
List Addr Obj `× $1
autoParam # true `= aRf $2
ze zV zb zt # # yh # $1 zU # $5 zi $2 $2
lt # # $2 true `=
at2 L k a $3
yW v deal r v $2 $2
# '1000 `≤
.Call .Name # # $2 # [0 pos $4
s.heap.get? # $1 some o $1 `=
\"\"_law_pot_here\" %1str
eOp # zd # $1 # $3
V9 # # s.length # # # # # # $9
zy # zy # zy # zy # # $2 $2 $2 $2
some rL # $1 $1
# e <2
some # $1 none none [3
.scr iL ns $1 $1
some .int gp v $1 $1 $1
some .cell $1
stp r v $2
CX1 P w $2
h'.get? # $1 some o $1 `=
vj zb # zb # zi $2 $2 $1
body
vs.length
stp.rep
\"\"_law_thing\" %1str
at2 # # # $3 \". natAbs &3proj
.type \"\"tuple\" %1str $1
X.mg # $1 none `=
# [0 <2
some .int far $1 $1
zx # zx # rfl $2 $2
.ex c s $2
L.getD k [0 $2
zb # zb # zb # zb # # $2 $2 $2 $2
s.heap.objs.size '1 `+
OpR X compareOp # $1 # $3
\"( ! &2hygienicLParen false \", eval e X.env $2 @1 @3 \") &3tuple
Value
pure # $1
k.toNat
\"\"_law_other\" %1str
\"( ! &2hygienicLParen false \", eval # X.env $2 @1 @3 \") &3tuple
some .str nmR r $1 $1 $1
aK zp # $2
some .lst qs.map pD $1 $1 $1
z2H eC .int '1 $1 $1 $1
r_k hr aN zc # $1 aN zc # $1 zg $2 $2 $2
.frz o # $2
kev # lt # $3
Sto R # $1 ^
zZ z3R hu $1 # # $3
autoParam backTo pos starEach # X.env $2 $2 \". any &3proj # $1 false `= aRf $2
f ρ s $2 \". bind &3proj d s1 # \\2 $1
dot # v $2
L.getD a [0 $2
Rep mg H Y s $4
pre # `++ \". map &3proj rD $1
List # $1
\"\"list\" %1str
# \". objs.size &3proj
_C.mp # $1
\"\"_law_one\" %1str
h.toLot
ze # zb # zb # zi $2 $2 $2
List α $1
decide # # `< $1
tOf eOp dNe zd # $1 # $3 $1
.inr # # <2 $1
some T $1
z4D hu $1
.ref e $1
jV zb zd # $1 zi $2 $1
# Bool ^
qh vH # $1 $1
ended v $1 false `=
\"\"int\" %1str
i.natAbs
R.ok # # $2
i hi # \\2
\"\"table\" %1str
\"\"_law_place\" %1str
h.get? # $1 some # $1 `=
Shared \"Prop &1prop ^
# Nat :
.bl false $1
d ρ s # \". bind &3proj ρ' s' # \\2 $1 \\3
# \". map &3proj rD $1
.bl true $1
qT tOf # $1 $1
tOf eOp dNe # # $3 $1
.ref l $1
VK \"Prop &1prop ^
det '4 # $2
okR mg # # # # # # $7
.cons # # $2
.fields # $1
I.hok
vs.toArray
ns.length
ρ s # \\2
\"\"_law_at\" %1str
h.ne
ze # zb zd # $1 zi $2 $2
at2 L # # $3
X.env.scope.names.lookup # $1 some .local $1 `=
Tab n # $2
h.here r # $2
List Option Nat $1 $1
op2 vr rfl $1 # $2
# # # # os <5
some x $1
.int b $1
xB zc '1 $1 # $2
eSl # yx # $1 zC $3
some .int # Nat : $1 $1
# \". get? &3proj # $1 some # $1 `=
Gl X x $2
H b $1 none `=
z2F T # # $3
X.base
absurd rfl # $2
.ok .bl decide # $1 $1 s $2
some # $1 some # $1 # none [4
.Name x # $2
List List Int $1 $1
.ok .non s $2
.ref f $1
zO r ls $2 \". map &3proj tD $1
some # $1 some # $1 some # $1 none [4
some # $1 some # $1 none [3
mg # $1 some # $1 `=
LotB n m v $3
Den mg H Y d v $5
RE X E e # $4
zb # zb zd # $1 zb zd # $1 zi $2 $2 $2
at2 L # a $3 \". natAbs &3proj
\"\"range\" %1str
af.toArray
'1000
X.mg
* * * # \\3
# \". toNat &3proj
.Call # # # # $4
'1000000000000000000000000000000
\"λ k @1 \": Nat &2typeSpec @1 \"=> D.int # $1 &4basicFun &2fun
Array Nat $1
Option D $1
# # rfl # <4
.Name # p2 $2
eOp xf zd # $1 eC .int '1 $1 $1 $3
wpAny # # # # # s $6
eOp yB zd # $1 # $3
xy v.length i $2
v.getD b '0 $2
upd H p # $3
v.getD '0 '0 $2
ky r v $2
X.env.kindOf # $1
s.toks
\"\"_law_size\" %1str
\"\"_law_rule\" %1str
h.nn
s.heap.get? # $1 some # $1 `=
.ref s.heap.objs.size $1
Hs # # # # base # # # # $9
# \". map &3proj tD $1
yo mg # # # # $5
X.fn # $1 true `=
* # <2
X.N @0 \"[ i \"] @0 \"? %7term__[_]_? some # $1 `=
RE X E # fa $4
# \". map &3proj rL $1
.int a $1
.ok # s3 $2
H' # $1 none `=
fb ρ s1 $2
eSl # zC yx # $1 $3
.ListComp az # scope pos $4
.Name y py $2
Run r # ls $3
yD T.q # rfl $2 # hr * # \\2 # $4
V9 t n s.length some .int a $1 $1 x4 x5 # x7 x8 $9
\"\"turn\" %1str
\"\"str\" %1str
o.cls
# \". isSome &3proj
_r.mp # $1
\"\"_law_found\" %1str
\"\"_law_line\" %1str
wpAny model # # $2 # # # # # $6
List.toArray List.range # $1 $1
h'.get? # $1 some # $1 `=
W.nsIn # mainGlobals # $3
starEach # env $2
ze # zb zd # $1 zb zd # $1 zi $2 $2 $2
ps.getD i # $2
_q.mp hx $1
eOp dIx zd # $1 zd '0 $1 $3
_g rfl $1
.ok .loc s.length $1 # $2
eOp yB # # $3
OpR X binaryOp # $1 # $3
.ok .nx # $1 s1 $2
eval o X.env $2
.ok # s L.map rL $1 [1 `++ $2
tg iter aC # <4
_ak * $1
fa ρ # $2
H p $1 none `=
\"\"enumerate\" %1str
\"\"isinstance\" %1str
b o e # \\3
s'.heap
O H Q # \\3
D.tup # $1
lexN # # $2
back # $1
deal # v $2
X.env.cells.lookup # $1 some # $1 `=
T.q # rfl $2
Loc X.env.scope # $2
autoParam # aLr $2
.Constant .str # $1 # # $3
List Keyword $1
# \". trans &3proj # \". trans &3proj # $1 $1
rfl # <2
okR.here # r # $3
# # rfl # # <5
op3 # rfl # $3
# \". set &3proj # some # $1 $2
I.hok # * # $3
tyD # $1 \". isSome &3proj true `=
yF vr rfl $1 $1
za5 # # # T.f8 # # # $7
.dK ah $1
.ok tD # $1 s $2
Tab n T $2
z5X # yh # $1 # $3
_w * rfl $2
mvd r # $2
\"\"NoLot\" %1str
\"\"NoRule\" %1str
askQ
items
names
\"\"by\" %1str
\"\"_law_some\" %1str
getD_mem # $1
eval # X.env $2
tOf eOp # # # $3 $1
I.ok.hd hc $1
.BoolOp # # pos $3
maxL others v $1 $1
some .int thin $1 $1
wf # T.f13 # $3
nz # $1 \". length &3proj
.lst ys $1
r_k hr aN zc '0 $1 zg $2 $2
some d $1 some e $1 [2
K.In h $1
# \". all &3proj x # \\1 $1
yo mg H Y xs vs $5
eOp dIx # # # # $5
eOp dIx zd # $1 eC .int '0 $1 $1 $3
xB zc '2 $1 # $2
mg # $1 none `=
kS # zn # $1 yz $3
_p hz $1
V9 t n s.length some .int a $1 $1 x4 x5 # # # $9
z2E mg # # ρ # $5
z0f n zO r ls $2 $2
x H1 # \\2
.Tuple # # # $3
x y H Q # \\4
items.size
\"\"number\" %1str
l.length
\"∀ d e @2 \": D &2typeSpec @1 \", # &5forall
'1999
List.replicate # # $2 \". flatten &3proj
backTo # starEach # X.env $2 $2
zb zd # $1 zb zd # $1 zi $2 $2
ns.map V.int $1
zx # zx # # $2 $2
Sco # s.heap # # $4
aK zp zg $2
ρ.set i # $2
some .builtin # $1 $1
\"\"lot\" %1str [1
zaP rsX # zd '0 $1 $3
some i $1
some # $1 some # $1 [2
ze yC zb zd '1 $1 zi $2 $2
# \". getD &3proj # [0 $2
z1x T.FM # # T.f8 # zc '0 $1 $6
xP st $1
Tab n A $2
inner mp O $2
model prog w $2
\"\"bool\" %1str
o.data
iter
s.heap.push # $1
NameKind.free
d hd # \\2
acc.length
\"\"divisor\" %1str
h.natAbs
zb # zb zd # $1 zi $2 $2
HT.sIx xs.length # # $3
\"if # \"then # \"else none %6termIfThenElse
ns.map D.int $1
en.mono stp $1
.inr .inr # $1 $1
pt.map tD $1
r_k hr aN zc # $1 # $2 $2
\"( ! &2hygienicLParen \"( ! &2hygienicLParen \"\"NoTable\" %1str Str : \", # Str : @1 @3 \") &3tuple \", false @1 @3 \") &3tuple
\"( ! &2hygienicLParen \"( ! &2hygienicLParen \"\"NotFair\" %1str Str : \", # Str : @1 @3 \") &3tuple \", false @1 @3 \") &3tuple
I.tok * $1
.head * $1
\"( ! &2hygienicLParen \"( ! &2hygienicLParen \"\"NoRule\" %1str Str : \", # Str : @1 @3 \") &3tuple \", false @1 @3 \") &3tuple
kS # zn zP # $1 $1 yz $3
starEach es X.env $2
Gl X # $2
\"( ! &2hygienicLParen \"( ! &2hygienicLParen \"\"NoLot\" %1str Str : \", # Str : @1 @3 \") &3tuple \", false @1 @3 \") &3tuple
eC .bl false $1 $1
\"\"ValueError\" %1str
s.abs
\"\"zip\" %1str
us.length
xs.set # # $2
List.range # $1
X.pn
I.free
ae s O H Q I h # \\7
name
s1.heap.objs.size
af.toArray.size
ds s1 # \\2
items.length
this
\"\"thing\" %1str
x.natAbs
Bn.tup # $1
g.natAbs
hv.toLot
List # # `× $1
# X.env.locals `≠
List.range n $1
* * False \\2
eOp xf zd # $1 # $3
zt # # yh # $1 # # $5
zt # # yh # $1 zU # $5
p D.tup # $1 \\1
ns.getD # '0 $2
# \". lookup &3proj # $1 some # $1 `=
decide # # `= $1
.Tuple # kt # $3
Q.getD # '0 $2
Den mg H Y # # $5
ac3 # ac3 # # $2 $2
xs.length cap `≤
minL nz # $1 $1
some .int ui v $1 $1 $1
ze # zb zd '1 $1 zi $2 $2
List Int # `× $1
maxL v $1
some V $1
at0 p n0 $2
xt xs us $2
none none [2
r_k hr aN zc # $1 aK zp zg $2 $2 $2
yo mg H Y ds vs $5
fOr qT tOf # $1 $1 # $2
valS # w $2
wj zc '0 $1 $1
decide # # `≤ $1
wP mp ρ $2
\"\"all\" %1str
\"\"NoTable\" %1str
\"\"NotFair\" %1str
h.objs.size
X.stack
X.fs
I.bare
s₁
I.kIn
_aC.mp # $1
z.symm
xs s1 # \\2
ag.rep
\"\"lines\" %1str
\"\"_law_table\" %1str
h.row # # $2
h.sz
LeS.calm
aN zc # $1 # $2
w.withFollow \"\"special-get-raises\" %1str # $2
wo # .builtin # $1 # $3
some .loc S.length $1 $1
zO r ls $2
Array.mk [0 $1
det # # $2 \". natAbs &3proj
hd.getD a # $2
_q.mp hr $1
List Nat $1
T.getD # [0 $2
z.getD # '0 $2
o e zH # # # $3 \\2
LotB n '104 v $3
z6b hr z1M # $3
_X # rfl rfl # $4
# # none none none [5
zD yE # zp $3
# \". map &3proj s # \\1 $1
.ok .rt # $1 s $2
X.env.locals
I.os
args
scope.names.lookup # $1
af.length
j.natAbs
maxL # $1
qs.length
Dd.D.int # $1
L.set # # $2
autoParam # aDe $2
vs.toArray.zip vs.toArray $1
r_k hr # $2
* # H Y s ds vs Q r hd h # \\9 <3
W.boot_heap w.params $1
p.toList.map i # \\1 $1
zh # zh # # $2 $2
autoParam # aOr $2
.type \"\"dict\" %1str $1
f ρ s $2 \". bind &3proj # $1
zdI # # v.length # $4
LCg.lst af $1
List.zip # # $2 \". map &3proj # $1
scope.kind .function `=
A.deeper envOfC # # s.heap.objs.size # # $5 $1
.ok true s $2
eval # env $2
l.map g $1
xt # us $2
some zaS # # $2 $1
.type T $1
.ref it $1
Binds # fd # # $4
yg # N' scope # s₃ # $6
some Q $1
some W $1
z40 zp $1
eOp z8T zd # $1 # $3
some tD ky r v $2 $1 $1
zaT X.N scope.names # # $4
wO # rfl $2
zQ zd '3 $1 $1
# \". filter &3proj # $1
X.outer
b o hb e # \\4
j.toNat
codeAny # # # # # $5
i.toNat
ρ d s1 # \\3
maxL_mem # $1
\"\"numbers\" %1str
\"\"_law_numbers\" %1str
\"\"_law_due\" %1str
s0.length
yu.nd
seqObj \"\"list\" %1str # # $3
Inv X ae # # # $5
bootBuiltins # $1 some # $1 `=
ixN xs.length # $2
eIs \"\"tuple\" %1str # $2
Dd.D.int '0 $1
xs.foldl # x $2
absurd # _aJ # $1 $2
RV # # s.length # # $5
O.set # some v $1 $2
some bad $1
Passes CX # # $3
_aa # # * * z # \\3 $3
RW.rt zcU # # $2 $1
aK xU aK xU # $2 $2
.str \"\"least\" %1str $1
O H Q t # # # $3 \\3
vals1 r $1
Bn.o rfl rfl $2
Den gm X $1 $1
foldedSetIterable iter X.env # $3
Nat Bool ^
.str \"\"next\" %1str $1
ac3 uw rfl $1 rfl $2
.bool b $1
I.pin p # $2
iL acc $1 [1
_bb # I.kIn # # # # $6
pure x $1
autoParam \"∀ x @1 @0 \", # &5forall aIr $2
z2q hd $1
Addr
\"\"sorted\" %1str
\"\"DrawError\" %1str
Value.ref # $1
xs.drop # $1
bootBuiltins # $1
X.ex
I.len
I.freeC
I.tuple # $1
D O H # \\3
True.intro
NameKind
scope.names
ht.typeIs
s₁.heap
.dict # $1
ρ x s1 # \\3
IsPair # # # # $4
L2.Inv # # # # # $5
\"\"column\" %1str
\"\"places\" %1str
\"\"quotients\" %1str
\"\"_law_script\" %1str
\"\"_law_own\" %1str
'2147483587
\"\"_law_many\" %1str
B.map # $1
M.lt
i hi j # \\3
.loc s.length $1
s.heap.update # Obj.mapSeq # $1 $2
List.replicate v.length # $2
Inv X ae O H # $5
z1q i j d t H Q e q # \\8 $1
wpAny model X.prog X.w $2 X.A # # # # $6
attributeBase # # X.env # $4
PyData.canLay0 # $1 true `=
sIx items.size # # $3
tuples' true $1
.type \"\"range\" %1str $1
# \"\"__name__\" %1str `≠
\"∀ ex s H @3 @0 \", zd3 # # # $3 &5forall
dn.mono ag $1
.Constant # j # $3
\"∀ ex s H @3 @0 \", PG # # # $3 &5forall
I.list hq $1
ps.zip us $1
b o e _i # # $2 \\3
wo # .builtin # $1 xs H Q # \\3 $3
dII i j # \\2 $1
listOf s # $2
call2 vr rfl $1 vr rfl $1 $2
_ae hp $1
mainGlobals
I.cell # # # $3
I.loc
s₂
False.elim # $1
I.kept # $1
List.replicate # # $2
\"\"size\" %1str
q.len
PyData.depth # $1
LeM.mof # $1
L.map rL $1
List Option # $1 $1
deal r v $2
cellsFrom # scope.names # $3
s.heap.push itO # # $2 $1
I.hok.fresh _l # $1 $1
swapsWith # # # X.env $4
seqObj \"\"list\" %1str vs.toArray # $3
vs.length ps.length `=
env.kindOf n $1
.Subscript # # pos $3
some .loc s0.length $1 $1
tb.lookup k $1
.Attribute # # ao $3
env.scope.kind .function `==
e.trans h1 $1
pure false $1
frs outer $1
# rfl # # <4
i j .int # $1 \\2
r.drop n $1
List Env $1
x D.int # $1 \\1
z8a # T.f18 # $3
# \". filter &3proj p # \\1 $1
qH # # hr hc # \\2 # $4
d.flat true `=
_V.mp # $1 \". elim &3proj # # $2
A.getD # [0 $2
V.ref b $1
l.map f $1
\"\"one\" %1str \"\"other\" %1str [2
faC # faN $2
.Name x pos $2
K.lookup # $1
\"\"BaseException.__getattribute__\" %1str
W.kitOne # # # $3
\"\"by_next\" %1str
\"\"by_least\" %1str
\"\"by_all\" %1str
\"\"by_turn\" %1str
\"\"is_showing\" %1str
\"\"showing\" %1str
seenQ # $1
prog
xs.take # $1
I.ok
_V.mp # $1
False
ae s O H D I h # \\7
# \". toArray &3proj
cLine
r.map # $1
_ad.mp # $1
mg.K
h.imp # # $2
ρ xs s1 # \\3
FlV.nx # $1
\"\"tables\" %1str
\"\"_law_top\" %1str
\"\"_law_quotients\" %1str
\"\"_law_lines_here\" %1str
T.f17
zX.nd
k h1 h2 # \\3
u.map # $1
Th.three # # # $3
backToKw # keywordEach # # $2 $2
\"if # \". isEmpty &3proj \"then # \"else # %6termIfThenElse
A.handled none `=
I.tuple hq $1
A.mark some # $1 $1
List Stmt $1
T.map rD $1
ended v $1
maxL ns $1
OpR X binaryOp .Mult $1 # $3
\"\"dict\" %1str
\"\"max\" %1str
\"\"min\" %1str
\"\"Ended\" %1str
\"\"NoBottom\" %1str
\"\"NoCube\" %1str
\"\"NoDeed\" %1str
\"\"NoNumber\" %1str
\"\"NoRoot\" %1str
\"\"NoRow\" %1str
\"\"NoSize\" %1str
\"\"NoStep\" %1str
\"\"NoText\" %1str
\"\"NoTuple\" %1str
\"\"NotAlike\" %1str
\"\"TooMany\" %1str
Shared
treeTable
xs.map # $1
I.ok.above
I.hok # # # $3
I.base
I.cell
_h.mp # $1
holding # # $2
pos.line
I1.kept # $1
IsPart # # $2
HT.sIx # # # $3
r.drop # $1
xs.all # $1
loose
s₃.heap.objs.size
okR.here # # # $3
toPys # $1
s2.set # # $2
maxL_ge # # $2
bools # $1
a.natAbs
List.range' # # $2
l.map # $1
x.toNat
lexLt # # $2
L.map # $1
p.size
\"\"own\" %1str
\"\"_law_more\" %1str
\"\"_law_by\" %1str
\"\"_law_later\" %1str
List.zipWith # # # $3
T.map # $1
v1.length
ps.map # $1
\"\"_law_least\" %1str
z3j.nd
g.row # # $2
.builtin \"\"object.__class__\" %1str $1
\"∀ \"( w @1 \": World @2 @0 \") &5explicitBinder \"( os @1 \": OsState @2 @0 \") &5explicitBinder @2 @0 \", # some # $1 `= &5forall
LotB n # # $3
List.replicate # none $2
sc.names.lookup x $1
assignEach # X.env $2
h.Ns mainGlobals # $2
h1.here stp.rep # $2
.seq af.toArray # $2
zdp # scope.names # $3
ys.length sizeLine `≤
yo mg H Y # vs $5
s.heap.push seqObj \"\"list\" %1str # # $3 $1
I.base.there b # # # $4
model X.prog # $2
Option Addr $1
# \". update &3proj s.heap.objs.size Obj.mapSeq # $1 $2
K.lookup a $1
z6b hr # # $3
W.keepIn # .ref f $1 $2
.seq # \". toArray &3proj $1
v.foldl cg # $2
zW # zX.nd # $3
hr # getD_mem # $1 $2
seqObj \"\"tuple\" %1str vs.toArray # $3
Gl X \"\"range\" %1str $2
ps.getD j # $2
x.fdiv h $1
toPys xs $1
ls.length '50000 `≤
absurd z # $2
h.step r # $2
start # vs $2
af.toList
\"\"__class__\" %1str
Sum.inl # $1
.local
* * * H * I h # \\7
pyNext # $1
b hb o e # \\4
A.units
# \". lookup &3proj # $1
s.TypeIs # # $2
ns.map # $1
yo.cons # # $2
b.length
b.toNat
findBy # # # $3
Cx.at_ # # # $3
ExcCls # # $2
arrOf # $1
z.length
kasC_bind # $1
\"\"_law_k\" %1str
\"\"_law_total\" %1str
'2147483629
\"\"_law_far\" %1str
\"\"_law_lots\" %1str
\"\"_law_tables\" %1str
Pm.dot # # $2
u.length
ls.length
List.zip # # $2
\"λ p @1 \": Int Int `× &2typeSpec @1 \"=> # &4basicFun &2fun
K.map # $1
'1000000000000000000
getD_get # $1
w.length
Q.length
\"\"_law_e\" %1str
Pg.yd
Pg.zB
yI.nd
wv.nd
L.drop # $1
kb.kd
envOfC # # s.heap.objs.size # # $5
List.range v.length $1
List.zipWith line q # \\2 # # $3
W.openGood # looseQ $2
behindInMarks op # $2
one qs.length $1
stp # v $2
some .loc S0.length $1 $1
ns.idxOf k $1
ao.endLine ak.line `==
_X # # rfl # $4
call .builtin # $1 # $2
\"∀ ex s H @3 @0 \", RE # E # # $4 &5forall
eIs \"\"bool\" %1str # $2
r.take n $1
_r.mp hx $1
h.get? # $1
W.SharedT
PySem.Challenge.pw_drawndown_k23_showings
W.boot_drawn
W.boot_toks
Paired # # # $3
O.length
I.base.keep # # # # # # $6
I.base.free # # # # # $5
I.base.slot # # # # # # $6
b o e n hb hx # \\6
I.ok.kind
s'.os
isTrue # # # $3
X.wish # $1
s1.heap.push # $1
s1.heap
# \". contains &3proj # $1
* * * * * * * q # \\8
A.depth
BindsTo # # # # $4
bindArgs # # $2
kindOf
Builtin.Slice.slicePlaces # # # $3
x lo hi H Q # \\5
pl.isList
s₁.heap.get? # $1
callerA
aF.line
Y.length
r.cell # # # $3
ds.length
ρ.length
bs.length
intsOf # $1
_al.mp # $1
x.bind # $1
vs H Q E h # \\5
dif_pos # $1
s1.take # $1
sT.abs.heap
xs.size
Cx.mk_ # # # $3
ρ s a s' e # \\5
kas_item # $1
p.toList.Perm # $1
kas_count # # $2
kas_st # # # $3
\"\"at_column\" %1str
\"\"place\" %1str
\"\"greatest\" %1str
\"\"others\" %1str
\"\"_law_mine\" %1str
\"\"_law_sides\" %1str
\"\"_law_most\" %1str
\"\"_law_odd_here\" %1str
r.take # $1
y.natAbs
A.length
v.idxOf # $1
_cW.mp # $1
qD.mpr # $1
h.nzne
dl.lt
h.le4
Pm.getD_mem # $1
d e hd he # \\4
# \". eraseIdx &3proj # $1
S.length
\"\"quotient\" %1str
Has.mono # # $2
xG.nd
yn.nd
g.len
B.zipIdx # $1
W.excIn # # # \"\"ValueError.__new__\" %1str $4
Den mg # # # # $5
LeS.seq # LeS.seq # # $2 $2
.of_wp prog w A R s h # \\6 $1
LeS.drop LeE.call # $1 $1
AllBare s'.gens $1
* * h' h'.elim \\3
False.elim hq $1
Txt.slice # # none $3
Ms.lookup y $1
List.take n $1
Option Bool $1
Array Keyed $1
Bn.other rfl # $2
kev ps.length # # $3
.Subscript # # p1 $3
qs.filter a # \\1 $1
ys.getD # .non $2
L'.map rL $1
pure true $1
Heap.FlyingW # # ea # # # $6
IntsAre # ns $2
h1.here r1 # $2
absurd # _aB $2
.Subscript a # # $3
AllBare # $1
dn.mono # $1
e.trans # $1
minL_mem # $1
D.int
T.f13
\"∀ \"( kV aE pm @3 \": Value @2 @0 \") &5explicitBinder \"( an @1 \": Option Addr @1 &2app @2 @0 \") &5explicitBinder \"( aj ct @2 \": Value @2 @0 \") &5explicitBinder \"( us @1 \": List Value @1 &2app @2 @0 \") &5explicitBinder @4 @0 \", # # ^ &5forall
pushCells # scope.names $2
p.toList.Pairwise i j # \\2 $1
X.s₀.heap.get? b $1
kas_sort ps.length $1
swapsWithSole # # pos.line # $4
I1.fpOk # I1.hok.fresh # $1 $2
s'.heap.get? acc $1
swappedStores # # X.env $3
Y1.take Y.length $1
List.range # $1 \". filterMap &3proj # $1
s.heap.IsSliceOf sl # # # $4
Array GenState $1
LeS.if_ # LeS.rfl $2
X.base.get? b $1
\"∀ \"{ ds @1 \": List D @1 &2app @2 \"} &4implicitBinder \"{ vs @1 \": List V @1 &2app @2 \"} &4implicitBinder @2 @0 \", # # ^ &5forall
strKind X.prog # $2
p.toList.length # `=
qD.mp minL_mem # $1 $1
List.lookup x # $2
Option Expr $1
Option Dd.D $1
bs.idxOf k $1
Option Str $1
xs.all isI $1
yr j.toNat $1
.function
w.params
I.hok.fresh # $1
cellsFrom # # # $3
LCg.lst # $1
D.flat.flats # $1
Prod.fst
\"∀ \"( aj @1 \": Value @2 @0 \") &5explicitBinder \"( A @1 \": Around @2 @0 \") &5explicitBinder \"( outer @1 \": List Env @1 &2app @2 @0 \") &5explicitBinder \"( s @1 \": Shared @2 @0 \") &5explicitBinder \"( H @1 \": Hp @2 @0 \") &5explicitBinder \"( E @1 \": XK @2 @0 \") &5explicitBinder @6 @0 \", # # ^ &5forall
importedModules p.main.body $1
\"∀ \"( names @1 \": List \"( ! &2hygienicLParen Str NameKind `× \") &3paren @1 &2app @2 @0 \") &5explicitBinder \"( acc @1 \": List \"( ! &2hygienicLParen Str Addr `× \") &3paren @1 &2app @2 @0 \") &5explicitBinder @2 @0 \", # # ^ &5forall
Builtin.SmallTypes.nextOf .ref # $1 $1
Builtin.Tuple.tupleExact * $1
ac3 # rfl $2
ao.endLine # `==
.type \"\"StopIteration\" %1str $1
pure ForInStep.yield # $1 $1
base.Ns mainGlobals # $2
af.toArray.any eqU # $1 $1
Rn.fair h.toLot $1
qs.map Prod.fst $1
zaO # # s2 e2 St W st bd bx # \\7 $3
s'.heap.get? b $1
w.withFollow row # $2
ziC X.env.kindOf scope.names $2
Vis X.env.scope # $2
L.map List.drop # $1 $1
.loc s1.length $1
W.kas_sort n $1
sortedAll s.heap # # $3
* * z z.freeze \\3
wpAny_letGo _m # $1 $1
env.kindOf # $1
s.heap.get? # $1
I1.hok.fresh # $1
Obj.mapSeq # $1
qs.map pD $1
importedModules # $1
s.heap.update # # $2"
def zL:Array String:=(zTab.splitOn "\n").toArray
def zK(k:Lean.Name)(l:List Lean.Syntax):Lean.Syntax:=.node .none k l.toArray
def zT(k:String)(l:List Lean.Syntax):Lean.Syntax:=zK (.str `Lean.Parser.Term k) l
def zO(s:String):Lean.Syntax:=Lean.mkAtom s
def zI(s:String):Lean.Syntax:=Lean.mkIdent s.toName
def zN(k:Lean.Name)(l r:String)(ys:List Lean.Syntax):Lean.Syntax:=zK k [zO l,zK `null (ys.intersperse (zO ",")),zO r]
def zF(d:Nat)(s:Nat×List Lean.Syntax)(x:Lean.Syntax):Nat×List Lean.Syntax:=(s.1,x::s.2.drop d)
def zG(n:Nat)(s:Nat×List Lean.Syntax):Lean.Syntax:=s.2.getD n .missing
def zX(xs:Array Lean.Syntax)(n:Nat):Lean.Syntax:=xs.getD n .missing
def zS(xs:Array Lean.Syntax)(p:Nat×List Lean.Syntax)(t:String):Nat×List Lean.Syntax:=
 let c:=t.front
 let u:=(t.drop 1).toString
 let g:=u.front.toNat-48
 let w:=(u.drop 1).toString
 let ys:=(p.2.take g).reverse
 let a:=zG 1 p
 let b:=zG 0 p
 let h:=zK `hygieneInfo [Lean.mkIdent .anonymous]
 if c=='#' then (p.1+1,zX xs p.1::p.2)
 else if c=='"' then zF 0 p (zO u)
 else if c=='!' then zF 0 p h
 else if c=='.' then zF 0 p (zT "dotIdent" [zO ".",zI u])
 else if c=='*' then zF 0 p (zT "hole" [zO "_"])
 else if c=='\'' then zF 0 p (zK `num [zO u])
 else if c=='`' then zF 2 p (zK (.mkSimple ("term_"++u++"_")) [a,zO u,b])
 else if c=='^' then zF 2 p (zT "arrow" [a,zO "→",b])
 else if c==':' then zF 2 p (zT "typeAscription" [zT "hygienicLParen" [zO "(",h],a,zO ":",zK `null [b],zO ")"])
 else if c=='<' then zF g p (zN `Lean.Parser.Term.anonymousCtor "⟨" "⟩" ys)
 else if c=='[' then zF g p (zN `«term[_]» "[" "]" ys)
 else if c=='@' then zF g p (zK `null ys)
 else if c=='$' then zF (g+1) p (zT "app" [zG g p,zK `null ys])
 else if c=='%' then zF g p (zK (.mkSimple w) ys)
 else if c=='&' then zF g p (zT w ys)
 else if c=='\\' then zF (g+1) p (zT "fun" [zO "fun",zT "basicFun" [zK `null ((p.2.drop 1).take g).reverse,zK `null [],zO "=>",b]])
 else zF 0 p (zI t)
def zH(xs:Array Lean.Syntax)(p:Nat×List Lean.Syntax):List String->Nat×List Lean.Syntax
 | []=>p | t::l=>zH xs (zS xs p t) l
def zV(c:Char):Nat:=let n:=c.toNat;if n<58 then n+4 else if n<91 then n-39 else n-97
def zP(s:String):String:=zL.getD (match s.toList with | [a,_]=>zV a | [a,b,_]=>52+62*zV a+zV b | _=>10000) ""
def zA(s:String)(xs:Array Lean.Syntax):Lean.Syntax:=
 if s.back != '!' then .missing else
 let r:=zP s
 if r.isEmpty then .missing else
 let p:=zH xs (0,[]) (r.splitOn " ")
 if p.1==xs.size then zG 0 p else .missing
def zC(x:Lean.Syntax)(xs:Array Lean.Syntax):Lean.Syntax:=match x.getId with | .str .anonymous s=>zA s xs | _=>.missing
def zD(x:Lean.Syntax):Bool:=match x.getId with | .str .anonymous s=>s.back=='!' | _=>false
def zE(x:Lean.Syntax):Lean.Syntax:=if zD x then (let y:=zC x #[];if y.isMissing then x else y) else x
def zB(x:Lean.Syntax)(xs:Array Lean.Syntax):Lean.MacroM Lean.Syntax:=if zD x then (let y:=zC x (xs.map zE);if y.isMissing then Lean.Macro.throwUnsupported else pure y) else Lean.Macro.throwUnsupported
end Zd
local macro_rules | `($f:ident $xs*)=>Zd.zB f xs
local macro_rules (kind:=ident) | `($f:ident)=>Zd.zB f #[]
open PySem PySem.Spec PyProof.Rows
noncomputable abbrev _a:=@wpAny_bind
noncomputable abbrev _b:=@List.getElem?_eq_getElem
noncomputable abbrev _c:=@List.getElem?_cons_zero
noncomputable abbrev _d:=@List.length_cons
noncomputable abbrev _e:=@List.getElem?_cons_succ
noncomputable abbrev _g:=@if_pos
noncomputable abbrev _h:=@List.getElem?_eq_some_iff
noncomputable abbrev _i:=@Heap.get?_push_of_some
noncomputable abbrev _j:=@Nat.lt_of_lt_of_le
noncomputable abbrev _k:=@List.length_nil
noncomputable abbrev _l:=@Nat.le_refl
noncomputable abbrev _m:=@wpAny_pure
noncomputable abbrev _n:=@List.getD_eq_getElem?_getD
noncomputable abbrev _o:=@if_neg
noncomputable abbrev _p:=@Option.some.inj
noncomputable abbrev _q:=@List.mem_map
noncomputable abbrev _r:=@List.mem_iff_getElem
noncomputable abbrev _s:=@Heap.lt_size
noncomputable abbrev _t:=@List.size_toArray
noncomputable abbrev _u:=@List.map_cons
noncomputable abbrev _v:=@if_true
noncomputable abbrev _w:=@Heap.get?_push_size
noncomputable abbrev _x:=@List.mem_of_getElem?
noncomputable abbrev _y:=@Option.some.injEq
noncomputable abbrev _z:=@List.length_map
noncomputable abbrev _A:=@List.mem_or_eq_of_mem_set
noncomputable abbrev _B:=@Nat.pow_le_pow_right
noncomputable abbrev _C:=@List.mem_cons
noncomputable abbrev _D:=@List.getElem?_map
noncomputable abbrev _E:=@Nat.ne_of_lt
noncomputable abbrev _F:=@List.set_cons_zero
noncomputable abbrev _G:=@Nat.le_trans
noncomputable abbrev _H:=@List.getElem?_append_left
noncomputable abbrev _I:=@PassesOwn.never
noncomputable abbrev _J:=@List.getElem_mem
noncomputable abbrev _K:=@List.mem_cons_of_mem
noncomputable abbrev _L:=@List.set_cons_succ
noncomputable abbrev _M:=@List.getElem?_eq_none
noncomputable abbrev _N:=@Function.comp_def
noncomputable abbrev _O:=@Option.bind_some
noncomputable abbrev _P:=@List.mem_append_right
noncomputable abbrev _Q:=@List.all_eq_true
noncomputable abbrev _R:=@PyProof.Rows.slot_tuple_getitem
noncomputable abbrev _S:=@Bool.and_eq_true
noncomputable abbrev _T:=@List.mem_of_mem_take
noncomputable abbrev _U:=@decide_eq_false
noncomputable abbrev _V:=@List.mem_append
noncomputable abbrev _W:=@Int.toNat_natCast
noncomputable abbrev _X:=@wpAny_field
noncomputable abbrev _Y:=@List.lookup_cons
noncomputable abbrev _Z:=@Classical.byContradiction
noncomputable abbrev _aa:=@wpAny_mono
noncomputable abbrev _ab:=@PyProof.Rows.callWith_type1
noncomputable abbrev _ac:=@List.getElem?_set_ne
noncomputable abbrev _ad:=@Bool.and_eq_true_iff
noncomputable abbrev _ae:=@List.of_mem_zip
noncomputable abbrev _af:=@decide_eq_true
noncomputable abbrev _ag:=@List.map_map
noncomputable abbrev _ah:=@wpAny_callSpecial?_slot
noncomputable abbrev _ai:=@Option.map_some
noncomputable abbrev _aj:=@List.getElem?_set_self
noncomputable abbrev _ak:=@Nat.zero_le
noncomputable abbrev _al:=@Option.map_eq_some_iff
noncomputable abbrev _am:=@List.mem_cons_self
noncomputable abbrev _an:=@List.getElem?_take_of_lt
noncomputable abbrev _ao:=@wpAny_setField_rec
noncomputable abbrev _ap:=@PySem.mem_of_lookup
noncomputable abbrev _aq:=@List.map_congr_left
noncomputable abbrev _ar:=@wpAny_Call_Name_kw
noncomputable abbrev _as:=@List.length_append
noncomputable abbrev _at:=@Nat.zero_add
noncomputable abbrev _au:=@congrArg
noncomputable abbrev _av:=@wpAny_loadPart'
noncomputable abbrev _aw:=@List.nil_append
noncomputable abbrev _ax:=@wpAny_call_entry
noncomputable abbrev _ay:=@List.length_drop
noncomputable abbrev _az:=@List.filter_cons
noncomputable abbrev _aA:=@decide_eq_true_eq
noncomputable abbrev _aB:=@Bool.false_ne_true
noncomputable abbrev _aC:=@beq_iff_eq
noncomputable abbrev _aD:=@Int.natAbs_mul
noncomputable abbrev _aE:=@Nat.mul_le_mul_right
noncomputable abbrev _aF:=@List.mem_of_mem_drop
noncomputable abbrev _aG:=@Option.getD_some
noncomputable abbrev _aH:=@List.getElem?_range
noncomputable abbrev _aI:=@wpAny_newObj_type
noncomputable abbrev _aJ:=@Nat.lt_irrefl
noncomputable abbrev _aK:=@Heap.size_push
noncomputable abbrev _aL:=@List.append_nil
noncomputable abbrev _aM:=@List.ext_getElem
noncomputable abbrev _aN:=@List.sum_cons
noncomputable abbrev _aO:=@List.mem_range
noncomputable abbrev _aP:=@Int.zero_add
noncomputable abbrev _aQ:=@wpAny_loadPart_at
noncomputable abbrev _aR:=@List.replicate_succ
noncomputable abbrev _aS:=@Nat.lt_or_eq_of_le
noncomputable abbrev _aT:=@wpAny_holding
noncomputable abbrev _aU:=@List.map_drop
noncomputable abbrev _aV:=@if_false
noncomputable abbrev _aW:=@wpAny_truthy_bool
noncomputable abbrev _aX:=@Nat.lt_succ_of_lt
noncomputable abbrev _aY:=@List.length_eq_zero_iff
noncomputable abbrev _aZ:=@Array.length_toList
noncomputable abbrev _a0:=@Int.add_zero
noncomputable abbrev _a1:=@List.zipWith_cons_cons
noncomputable abbrev _a2:=@List.getElem_inj
noncomputable abbrev _a3:=@F.slot_tuple_iterator_next
noncomputable abbrev _a4:=@wpAny_seqItems
noncomputable abbrev _a5:=@Int.mul_neg_of_neg_of_pos
noncomputable abbrev _a6:=@wpAny_passesOwn
noncomputable abbrev _a7:=@List.foldl_cons
noncomputable abbrev _a8:=@Int.emod_nonneg
noncomputable abbrev _a9:=@List.mem_append_left
noncomputable abbrev _ba:=@List.map_set
noncomputable abbrev _bb:=@W.kia_one
noncomputable abbrev _bc:=@List.getElem?_replicate
noncomputable abbrev _bd:=@Option.bind_eq_some_iff
noncomputable abbrev _be:=@Int.mul_nonneg
noncomputable abbrev _bf:=@List.map_zipWith
noncomputable abbrev _bg:=@Nat.le_of_lt
noncomputable abbrev _bh:=@call_meets
noncomputable abbrev _bi:=@SeqAt.canLay_of_shaped
noncomputable abbrev _bj:=@Nat.lt_of_le_of_lt
noncomputable abbrev _bk:=@List.mem_singleton
noncomputable abbrev _bl:=@List.filter_eq_nil_iff
noncomputable abbrev _bm:=@Int.emod_lt_of_pos
noncomputable abbrev _bn:=@Int.lt_of_le_of_lt
noncomputable abbrev _bo:=@List.zip_cons_cons
noncomputable abbrev _bp:=@List.mem_filter
noncomputable abbrev _bq:=@F.slot_int_rmul
noncomputable abbrev _br:=@Prod.mk.injEq
noncomputable abbrev _bs:=@W.kia_tup
noncomputable abbrev _bt:=@List.length_replicate
noncomputable abbrev _bu:=@F.slot_enumerate_next
noncomputable abbrev _bv:=@Int.mul_ediv_add_emod
noncomputable abbrev _bw:=@List.flatten_cons
noncomputable abbrev _bx:=@Nat.le_succ_of_le
noncomputable abbrev _by:=@List.getElem?_append_right
noncomputable abbrev _bz:=@Calls.evalArgs_plain
noncomputable abbrev _bA:=@Int.fdiv_eq_ediv_of_nonneg
noncomputable abbrev _bB:=@PySem.F.excBase_ValueError
noncomputable abbrev _bC:=@Nat.add_le_add
noncomputable abbrev _bD:=@Int.natAbs_of_nonneg
noncomputable abbrev _bE:=@List.length_take
noncomputable abbrev _bF:=@List.cons_append
noncomputable abbrev _bG:=@List.getElem_map
noncomputable abbrev _bH:=@List.zipIdx_cons
noncomputable abbrev _bI:=@wpAny_binaryOp_repeat_ref
noncomputable abbrev _bJ:=@List.drop_eq_getElem_cons
noncomputable abbrev _bK:=@beq_eq_false_iff_ne
noncomputable abbrev _bL:=@List.filterMap_cons
noncomputable abbrev _bM:=@Heap.SameBut.update
noncomputable abbrev _bN:=@List.length_pos_iff
noncomputable abbrev _bO:=@List.filter_eq_self
noncomputable abbrev _bP:=@PySem.F.args_tuple_add_2
noncomputable abbrev _bQ:=@wpAny_comprehension_free
noncomputable abbrev _bR:=@PyProof.noPylong_of_log2
noncomputable abbrev _bS:=@Int.dvd_trans
noncomputable abbrev _bT:=@Ne.symm
noncomputable abbrev _bU:=@Int.ediv_nonneg
noncomputable abbrev _bV:=@List.lookup_append
noncomputable abbrev _bW:=@Int.mul_nonneg_of_nonpos_of_nonpos
noncomputable abbrev _bX:=@PySem.F.entry_tuple_add
noncomputable abbrev _bY:=@PySem.F.plainAttrs_list
noncomputable abbrev _bZ:=@Nat.pow_add
noncomputable abbrev _b0:=@Nat.le_mul_of_pos_right
noncomputable abbrev _b1:=@List.set_eq_take_append_cons_drop
noncomputable abbrev _b2:=@PySem.F.slot_tuple_add
noncomputable abbrev _b3:=@subscriptTail_builtinR
noncomputable abbrev _b4:=@wpAny_Call_method_late
noncomputable abbrev _b5:=@Calls.callWith_builtin
noncomputable abbrev _b6:=@List.append_assoc
noncomputable abbrev _b7:=@List.reverse_cons
noncomputable abbrev _b8:=@Nat.lt_of_succ_lt_succ
noncomputable abbrev _b9:=@Heap.get?_push_ne
noncomputable abbrev _ca:=@List.take_append_drop
noncomputable abbrev _cb:=@F.typeOf_object_class
noncomputable abbrev _cc:=@wpAny_eqBool_int
noncomputable abbrev _cd:=@typeIs_int
noncomputable abbrev _ce:=@Nat.lt_succ_self
noncomputable abbrev _cf:=@Nat.le_add_right
noncomputable abbrev _cg:=@F.slot_tuple_mul
noncomputable abbrev _ch:=@Nat.mul_lt_mul''
noncomputable abbrev _ci:=@Int.mul_le_mul_of_nonneg_right
noncomputable abbrev _cj:=@Int.not_lt
noncomputable abbrev _ck:=@List.not_mem_nil
noncomputable abbrev _cl:=@wpAny_standAt
noncomputable abbrev _cm:=@List.all_cons
noncomputable abbrev _cn:=@listUpdate_at
noncomputable abbrev _co:=@List.map_take
noncomputable abbrev _cp:=@wpAny_updateSeq_pair
noncomputable abbrev _cq:=@Nat.le_succ
noncomputable abbrev _cr:=@List.forall_mem_cons
noncomputable abbrev _cs:=@Int.mul_le_mul_of_nonneg_left
noncomputable abbrev _ct:=@List.getElem_zipWith
noncomputable abbrev _cu:=@List.map_append
noncomputable abbrev _cv:=@wpAny_execs_nil
noncomputable abbrev _cw:=@List.nodup_cons
noncomputable abbrev _cx:=@List.length_set
noncomputable abbrev _cz:=@F.slot_zip_next
noncomputable abbrev _cA:=@List.cons.injEq
noncomputable abbrev _cB:=@Nat.two_pow_pos
noncomputable abbrev _cC:=@entry_tuple_getitem
noncomputable abbrev _cD:=@List.take_succ_cons
noncomputable abbrev _cE:=@Nat.ne_of_gt
noncomputable abbrev _cG:=@decide_false
noncomputable abbrev _cI:=@Int.mul_comm
noncomputable abbrev _cJ:=@Int.ofNat_lt
noncomputable abbrev _cK:=@Calls.Constant_str
noncomputable abbrev _cM:=@assignInOrder_cons
noncomputable abbrev _cN:=@wpAny_rule
noncomputable abbrev _cO:=@List.mem_filterMap
noncomputable abbrev _cP:=@Calls.spliced_cons
noncomputable abbrev _cR:=@slicePart_none
noncomputable abbrev _cS:=@args_tuple_getitem
noncomputable abbrev _cT:=@wpAny_newTuple
noncomputable abbrev _cU:=@List.getElem_idxOf
noncomputable abbrev _cV:=@Bool.false_eq_true
noncomputable abbrev _cW:=@Nat.not_lt
noncomputable abbrev _cY:=@Int.lt_of_lt_of_le
noncomputable abbrev _cZ:=@Bool.and_false
noncomputable abbrev _c5:=@wpAny_assign_Name
noncomputable abbrev _c6:=@Calls.spliced_nil
noncomputable abbrev _c7:=@List.take_sublist
noncomputable abbrev _c8:=@wpAny_sequenceKey
noncomputable abbrev _c9:=@F.args_int_rmul_2
noncomputable abbrev _da:=@Nat.le_of_succ_le
noncomputable abbrev _db:=@Int.le_refl
noncomputable abbrev _dc:=@seqEpoch_at
noncomputable abbrev _dd:=@bne_self_eq_false
noncomputable abbrev _de:=@List.length_range
noncomputable abbrev _df:=@Nat.add_mul
noncomputable abbrev _dg:=@Int.natAbs_add_le
noncomputable abbrev _dh:=@Int.gcd_dvd_right
noncomputable abbrev _di:=@List.ext_getElem?
noncomputable abbrev _dj:=@decide_true
noncomputable abbrev _dk:=@of_decide_eq_true
noncomputable abbrev _dl:=@List.Pairwise.map
noncomputable abbrev _dn:=@wpAny_attempt
noncomputable abbrev _do:=@wpAny_onRaise
noncomputable abbrev _dr:=@wpAny_newList
noncomputable abbrev _ds:=@W.cellsFrom_some
noncomputable abbrev _dt:=@noFill_tuple_add
noncomputable abbrev _du:=@Option.getD_none
noncomputable abbrev _dv:=@F.slot_int_index
noncomputable abbrev _dw:=@F.entry_int_rmul
noncomputable abbrev _dx:=@List.prefix_refl
noncomputable abbrev _dz:=@List.mem_toArray
noncomputable abbrev _dE:=@Int.gcd_dvd_left
noncomputable abbrev _dF:=@Int.dvd_antisymm
noncomputable abbrev _dG:=@Int.ediv_le_self
noncomputable abbrev _dK:=@codeAny_mono
noncomputable abbrev _dL:=@W.callWith_K
noncomputable abbrev _dM:=@wpAny_typeOf
noncomputable abbrev _dO:=@Nat.mul_comm
noncomputable abbrev _dS:=@Nat.sub_self
noncomputable abbrev _dT:=@Int.dvd_zero
noncomputable abbrev _dU:=@Nat.pow_succ
noncomputable section
namespace Dd
noncomputable def dArgs(s:Stmt):Arguments:=match s with
 | .FunctionDef _ a _ _ _ _ _ _ _ _=>a | _=>{posonlyargs:=[],args:=[],vararg:=none,kwonlyargs:=[],kw_defaults:=[],kwarg:=none,defaults:=[]}
noncomputable def zqn(s:Stmt):nK!:=match s with
 | .FunctionDef _ _ b _ _ _ _ _ _ _=>b | _=>[]
noncomputable def zlX(s:Stmt):Scope:=match s with
 | .FunctionDef _ _ _ _ _ _ sc _ _ _=>sc | _=>{kind:=sl!,names:=[],isGenerator:=false,isCoroutine:=false}
noncomputable def zdb(h:Heap)(a:Addr):W.Frag:=match qd! a with | some o=>[(a,o)] | none=>[]
noncomputable def zvz(h:Heap)(g:W.Frag)(x:Str):W.Frag:=match gx! g x with
 | some (some (.ref f))=>zdb h f++(match qd! f with
   | some ⟨_,_,.func fd,_⟩=>(match fd.code with | .ref c=>zdb h c | _=>[]) | some ⟨_,_,.cls cd,_⟩=>zdb h cd.ns | _=>[]) | _=>[]
noncomputable def gat(h:Heap)(ns:aq!):W.Frag:=zdb h mp!++ns.flatMap (zvz h (zdb h mp!))
noncomputable abbrev FV:=Str×Str×Arguments×FuncBody×Scope×lx!×bU! lx!×d2!×lx!×cj!×cj!
noncomputable def zkT(K:W.Frag)(x:Str):bq! FV:=match gx! K x with
 | some (some (.ref f))=>(match m8! f with
   | some ⟨_,_,.func fd,_⟩=>b! (fd.name,fd.qualname,fd.params,fd.body,fd.scope,fd.globals,fd.closure,fd.defaults,fd.builtins,W.codeIn K fd.code fd.qualname,o2! K) | _=>none) | _=>none
noncomputable def zs9(x:Str)(st:Stmt):bq! FV:=b! (x,x,dArgs st,.stmts (zqn st),zlX st,mp!,[],ab!,builtinsNs,d!,d!)
noncomputable def znS(K:W.Frag)(x:Str):Bool:=match gx! K x with | some none=>true | _=>false
noncomputable def zp5(K:W.Frag)(x:Str):dm!:=match gx! K x with | some (some (.int i _))=>h7! | _=>none
noncomputable def sameRef:d2!->bq! aU!->cj!
 | .ref f,some (some (.ref g))=>f==g | _,_=>false
noncomputable def ziP:d2!->si!
 | .str k _=>b! k | _=>none
noncomputable def zbN:eB! d2!
 | .type c=>c==nP! | _=>false
noncomputable def zfs(K:W.Frag):em! DictEntry->aq!->jk! (si!×cj!)
 | e::es,y::ys=>(e.hash,ziP e.key,sameRef e.val (gx! K y))::zfs K es ys | [],[]=>[] | _,_=>[(0,a!,q!)]
noncomputable def zop(K:W.Frag)(x:Str)(ys:aq!):bq! (cj!×cj!×cj!×cj!×jk! (si!×cj!)):=match gx! K x with
 | some (some (.ref a))=>(match o0! with
   | some ⟨c,d,.dict es _,sl⟩=>b! (zbN c,d.isNone,sl.size==0,a==sysModules,zfs K es.toList ys) | _=>none) | _=>none
noncomputable def zsW(w:World)(tb:bU! Str):bq! (cj!×cj!×cj!×cj!×jk! (si!×cj!)):=b! (d!,d!,d!,q!,tb.map λp=>(PyData.keyHash sm! p.1,b! p.1,d!))
noncomputable def zrl:bZ!->bq! h!
 | []=>b! [] | .int i _::r=>(zrl r).map (i::·) | _=>none
noncomputable def zk2:eB! d2!
 | .type c=>c==c2! | _=>false
noncomputable def zsH(K:W.Frag)(x:Str):bq! (cj!×bq! h!):=match gx! K x with
 | some (some (.ref a))=>(match o0! with
   | some ⟨c,_,.seq af _,_⟩=>b! (zk2 c,zrl pg!) | _=>none) | _=>none
noncomputable def bmV:bZ!:=[ar! iH!,ar! "Exception",ar! "BaseException",ar! "object"]
noncomputable def z7A(K:W.Frag)(C:Addr):Bool:=match m8! C with | some ⟨.type t,_,.cls _,_⟩=>t=="type" | _=>false
noncomputable def z9M(K:W.Frag)(x:Str):Bool:=match gx! K x with
 | some (some (.ref C))=>rq! K C bmV&&(W.findIn K ap! "__getattribute__"==b! (h4! m9!)&&(W.findIn K ap! "__getattr__"==b! a! && (W.findIn K ap! ph!==b! (b! oJ!)&&(W.mroIn K C (ar! "object")==b! d!&&(W.mroIn K C (ar! "BaseException")==b! d!&&(z7A K C&&na! K ap! (ar! iH!)==b! d!)))))) | _=>false
noncomputable def z8W(K:W.Frag)(x y:Str):bq! (rB!×rB!):=match gx! K x,gx! K y with
 | some (some (.ref C)),some (some (.ref D))=>b! (W.mroIn K C (y! D),na! K ap! (y! D)) | _,_=>none
noncomputable abbrev Obs:=mB! FV×em! cj!×em! dm!×mB! (cj!×cj!×cj!×cj!×jk! (si!×cj!))×mB! (cj!×bq! h!)×em! cj!×mB! (rB!×rB!)
structure Ask where
 fs:bU! Stmt
 bs:aq!
 cs:bU! Int
 ts:bU! (bU! Str)
 us:bU! h!
 xs:aq!
 ps:i1! (Str×Str) cj!
noncomputable def zeA(q:Ask)(K:W.Frag):Obs:=(q.fs.map λp=>zkT K p.1,q.bs.map (znS K),q.cs.map λp=>zp5 K p.1,q.ts.map (λp=>zop K p.1 (p.2.map (·.2))),q.us.map (λp=>zsH K p.1),q.xs.map (z9M K),q.ps.map λp=>z8W K p.1.1 p.1.2)
noncomputable def obsS(q:Ask)(s:Shared):Obs:=zeA q (gat L! (q.fs.map (·.1)++q.ts.map (·.1)++q.us.map (·.1)++q.xs))
noncomputable def valS(q:Ask)(w:World):Obs:=(q.fs.map λp=>zs9 p.1 p.2,q.bs.map (bk! d!),q.cs.map λp=>b! p.2,q.ts.map (λp=>zsW w p.2),q.us.map (λp=>b! (d!,b! p.2)),q.xs.map (bk! d!),q.ps.map λp=>b! (b! p.2,b! p.2))
noncomputable def z7I(tb:String->bq! Builtin)(p:Program)(w:World)(n₀:Nat)(dw:aU!):Nat->qe!->Thread->bq! qe!
 | 0,_,_=>none | n+1,s,t=>match W.through t with
  | true=>b! s | false=>match W.stepOk n₀ dw t with
   | false=>none | true=>match W.stepT (denote tb) p w s t with
    | some (s',t')=>z7I tb p w n₀ dw n s' t' | none=>none
noncomputable def zq8(l:em! Obj):W.BT×Nat:=l.foldl (λa o=>(a.1.ins a.2 o,a.2+1)) (W.BT.nil,0)
noncomputable def zpP(P:Params):W.BT:=(zq8 (W.boot_heap P).objs.toList).1
end Dd
namespace Dd
noncomputable def zvQ(q:Ask):aq!:=q.fs.map (·.1)++q.ts.map (·.1)++q.us.map (·.1)++q.xs
noncomputable def zqm(k:Nat)(q:Ask)(s:Shared):mB! FV:=(q.fs.take k).map λp=>zkT (gat L! (zvQ q)) p.1
noncomputable def zpe(k:Nat)(q:Ask)(s:Shared):Obs:=zeA {q with fs:=q.fs.drop k} (gat L! (zvQ q))
noncomputable def zq2(k:Nat)(q:Ask):mB! FV:=(q.fs.take k).map λp=>zs9 p.1 p.2
noncomputable def zph(k:Nat)(q:Ask)(w:World):Obs:=jt! ({q with fs:=q.fs.drop k})
theorem zok(k:Nat)(q:Ask)(s:Shared):obsS q s=(zqm k q s++(zpe k q s).1,(zpe k q s).2):=by
 unfold zqm zpe obsS zeA;rw[<- _cu,_ca];rfl
theorem zoD(k:Nat)(q:Ask)(w:World):jt! q=(zq2 k q++(zph k q w).1,(zph k q w).2):=by
 unfold zq2 zph valS;rw[<- _cu,_ca]
theorem zeU{o:bq! qe!}{f:eB! qe!}{k:Nat}{q:Ask}{w:World}(h1:o.map (λs=>(f s,zqm k q iI!))=b! (d!,zq2 k q))(h2:o.map (λs=>zpe k q iI!)=b! (zph k q w)):o.map (λs=>(f s,obsS q iI!))=b! (d!,jt! q):=by cases o with
 | none=>cases h1 | some s=>
  simp only[_ai,_y,_br]at h1 h2;simp only[_ai,zok k,zoD k,h1.1,h1.2,h2]
end Dd
namespace aW
open Dd
noncomputable def top(i:Nat):Stmt:=PySem.Challenge.pw_drawndown_k23_showings.main.body.getD i (.Pass ⟨0,0,0,0⟩)
noncomputable abbrev z7D:Stmt:=top 22
noncomputable abbrev z6Q:Stmt:=top 24
noncomputable abbrev z0y:Stmt:=top 29
noncomputable abbrev z6g:Stmt:=top 37
noncomputable abbrev z2i:Stmt:=top 39
noncomputable abbrev z3d:Stmt:=top 41
noncomputable abbrev z9s:Stmt:=top 43
noncomputable abbrev z9q:Stmt:=top 44
noncomputable abbrev uo:Stmt:=top 46
noncomputable abbrev z28:Stmt:=top 47
noncomputable abbrev z9B:Stmt:=top 48
noncomputable abbrev z92:Stmt:=top 54
noncomputable abbrev zf1:Stmt:=top 61
noncomputable abbrev z0X:Stmt:=top 73
noncomputable abbrev z83:Stmt:=top 74
noncomputable abbrev z5j:Stmt:=top 75
noncomputable abbrev z2L:Stmt:=top 77
noncomputable abbrev z4B:Stmt:=top 78
noncomputable abbrev z2J:Stmt:=top 79
noncomputable abbrev z3A:Stmt:=top 81
noncomputable abbrev z7g:Stmt:=top 82
noncomputable abbrev z6N:Stmt:=top 86
noncomputable abbrev z3G:Stmt:=top 87
noncomputable abbrev z6e:Stmt:=top 89
noncomputable abbrev z0V:Stmt:=top 94
noncomputable abbrev z2I:Stmt:=top 23
noncomputable abbrev z22:Stmt:=top 38
noncomputable abbrev z4V:Stmt:=top 42
noncomputable abbrev z9i:Stmt:=top 49
noncomputable abbrev z6p:Stmt:=top 50
noncomputable abbrev zbs:Stmt:=top 51
noncomputable abbrev z9z:Stmt:=top 52
noncomputable abbrev z4P:Stmt:=top 55
noncomputable abbrev z7x:Stmt:=top 76
noncomputable abbrev z6B:Stmt:=top 80
noncomputable abbrev z10:Stmt:=top 83
noncomputable abbrev z5i:Stmt:=top 84
noncomputable abbrev kK:Stmt:=top 88
noncomputable abbrev z1y:Stmt:=top 90
noncomputable abbrev z1Z:Stmt:=top 91
noncomputable abbrev z7m:Stmt:=top 92
noncomputable abbrev z4M:Stmt:=top 95
noncomputable abbrev zcC:Stmt:=top 26
noncomputable abbrev z6J:Stmt:=top 32
noncomputable abbrev z7p:Stmt:=top 60
noncomputable abbrev z96:Stmt:=top 67
noncomputable abbrev z2P:Stmt:=top 85
noncomputable abbrev z53:Stmt:=top 93
noncomputable abbrev jC:Stmt:=top 97
noncomputable abbrev z6i:Stmt:=top 27
noncomputable abbrev z3i:Stmt:=top 33
noncomputable abbrev qF:Stmt:=top 98
noncomputable abbrev zbl:Stmt:=top 28
noncomputable abbrev z4J:Stmt:=top 30
noncomputable abbrev z34:Stmt:=top 34
noncomputable abbrev z3L:Stmt:=top 35
noncomputable abbrev qK:Stmt:=top 56
noncomputable abbrev z3n:Stmt:=top 68
noncomputable abbrev z1W:Stmt:=top 36
noncomputable abbrev jq:Stmt:=top 40
noncomputable abbrev z5h:Stmt:=top 57
noncomputable abbrev zh3:Stmt:=top 58
noncomputable abbrev z3k:Stmt:=top 59
noncomputable abbrev zmp:Stmt:=top 62
noncomputable abbrev z4N:Stmt:=top 63
noncomputable abbrev z1V:Stmt:=top 64
noncomputable abbrev z1N:Stmt:=top 65
noncomputable abbrev z3K:Stmt:=top 69
noncomputable abbrev z8X:Stmt:=top 70
noncomputable abbrev z9k:Stmt:=top 71
noncomputable abbrev z4C:Stmt:=top 96
noncomputable abbrev z8M:Stmt:=top 99
noncomputable def zf4:bU! Str:=[("next",nb!),("least",nc!),(jx!,nd!),(gn!,ne!)]
noncomputable def askQ:Ask:=⟨[Z! "is_whole" z7D, Z! "has_size" z6Q, Z! "common_of_two" z0y, Z! "together" z6g, Z! "like_places" z2i, Z! "columns_of" z3d, Z! "without" z9s, Z! "sign_at" z9q, Z! "greatest_and_others" uo, Z! "least_place" z28, Z! "all_but" z9B, Z! "is_rule" z92, Z! "moved" zf1, Z! "_law_cell_at" z0X, Z! "_law_pot" z83, Z! "_law_take" z5j, Z! "_law_rules" z2L, Z! "_law_step" z4B, Z! "_law_ended" z2J, Z! "_law_plain" z3A, Z! "_law_led" z7g, Z! "_law_dot" z6N, Z! "_law_whole" z3G, Z! "_law_gcd" z6e, Z! "_law_kind_of" z0V, Z! "are_wholes" z2I, Z! "lines_times" z22, Z! "number_of" z4V, Z! nb! z9i, Z! nc! z6p, Z! nd! zbs, Z! ne! z9z, Z! "want_rule" z4P, Z! "_law_lot" z7x, Z! "_law_run" z6B, Z! "_law_product" z10, Z! "_law_back" z5i, Z! "_law_are_whole" kK, Z! "_law_no_rule" z1y, Z! "_law_is_lot" z1Z, Z! "_law_odd" z7m, Z! "_law_same" z4M, Z! "is_lot" zcC, Z! "is_table" z6J, Z! "division" z7p, Z! "come_to" z96, Z! "_law_lines" z2P, Z! "_law_bent" z53, Z! "_law_is_showing" jC, Z! "want_lot" z6i, Z! "want_table" z3i, Z! "_law_bent_showing" qF, Z! "common" zbl, Z! "has_ended" z4J, Z! "multiplied" z34, Z! "one_number" z3L, Z! "want_rule_and_lot" qK, Z! nf! z3n, Z! "turned_back" z1W, Z! "growing_products" jq, Z! "want_step" z5h, Z! "step" zh3, Z! "step_table" z3k, Z! "run" zmp, Z! "tables_of" z4N, Z! "products_of" z1V, Z! "whole_table" z1N, Z! "lines_back" z3K, Z! "weights" z8X, Z! ng! z9k, Z! "_law_told" z4C, Z! "law" z8M], [o! iH!,o! "abs",o! jx!,o! ig!,o! gO!,o! eE!,o! gP!,o! "len",o! en!,o! nQ!,o! nR!,o! fD!,o! ly!,o! go!,o! "sum",o! c2!,o! iJ!], [(o! "LEAST_SIZE",j! 2),(o! "MOST_SIZE",j! 4)], [Z! "RULES" zf4], [], [o! lz!,o! nS!,o! nT!,o! nU!,o! nV!,o! hj!,o! nW!,o! nX!,o! nY!,o! hk!,o! nZ!,o! n0!,o! jy!,o! n1!,o! n2!,o! n3!,o! jz!,o! n4!], [((o! hj!,o! hj!),d!),iF! jy!,iF! n2!,iF! n3!,iF! jz!,iF! n1!,iF! hk!,iF! nS!,iF! nT!,iF! nX!,iF! nU!,iF! nZ!,iF! nW!,iF! n4!,iF! n0!,iF! nV!,iF! nY!,iB! hj!,iB! jy!,iB! n2!,iB! n3!,iB! jz!,iB! n1!,((o! hk!,o! hk!),d!),iB! nS!,iB! nT!,iB! nX!,iB! nU!,iB! nZ!,iB! nW!,iB! n4!,iB! n0!,iB! nV!,iB! nY!,ix! hj!,((o! jy!,o! jy!),d!),ix! n2!,ix! n3!,ix! jz!,ix! n1!,ix! hk!,ix! nS!,ix! nT!,ix! nX!,ix! nU!,ix! nZ!,ix! nW!,ix! n4!,ix! n0!,ix! nV!,ix! nY!,iy! hj!,iy! jy!,iy! n2!,iy! n3!,((o! jz!,o! jz!),d!),iy! n1!,iy! hk!,iy! nS!,iy! nT!,iy! nX!,iy! nU!,iy! nZ!,iy! nW!,iy! n4!,iy! n0!,iy! nV!,iy! nY!,((o! hj!,o! lz!),d!),((o! hk!,o! lz!),d!),((o! jy!,o! lz!),d!),((o! jz!,o! lz!),d!)]⟩
noncomputable def qv:Program:=W.view qf! [99]
noncomputable def looseQ:aq!:=[o! lz!,o! hj!,o! jy!,o! n2!,o! n3!,o! jz!,o! n1!,o! hk!,o! nS!,o! nT!,o! nX!,o! nU!,o! nZ!,o! nW!,o! n4!,o! n0!,o! nV!,o! nY!,o! "LEAST_SIZE",o! "MOST_SIZE",o! "is_whole",o! "are_wholes",o! "has_size",o! "is_lot",o! "want_lot",o! "common",o! "common_of_two",o! "has_ended",o! "is_table",o! "want_table",o! "multiplied",o! "one_number",o! "turned_back",o! "together",o! "lines_times",o! "like_places",o! "growing_products",o! "columns_of",o! "number_of",o! "without",o! "sign_at",o! "greatest_and_others",o! "least_place",o! "all_but",o! nb!,o! nc!,o! nd!,o! ne!,o! "RULES",o! "is_rule",o! "want_rule",o! "want_rule_and_lot",o! "want_step",o! "step",o! "step_table",o! "division",o! "moved",o! "run",o! "tables_of",o! "products_of",o! "whole_table",o! "come_to",o! nf!,o! "lines_back",o! "weights",o! ng!,o! "_law_cell_at",o! "_law_pot",o! "_law_take",o! "_law_lot",o! "_law_rules",o! "_law_step",o! "_law_ended",o! "_law_run",o! "_law_plain",o! "_law_led",o! "_law_product",o! "_law_back",o! "_law_lines",o! "_law_dot",o! "_law_whole",o! "_law_are_whole",o! "_law_gcd",o! "_law_no_rule",o! "_law_is_lot",o! "_law_odd",o! "_law_bent",o! "_law_kind_of",o! "_law_same",o! "_law_told",o! "_law_is_showing",o! "_law_bent_showing"]
noncomputable def lvQ:bU! W.WData:=[]
noncomputable def xtQ:eB! n5!:=λs=>W.xlAt qv lvQ s&&W.recOk (W.RowW.records (W.OpenRow.toRowW (W.OpenLaw.row PySem.Challenge.rw_drawndown_k23_showings))) s
theorem zvu:∀w:World,W.absHeap (zpP sm!) 11 (kn!).life=kn!:=by
 intro w;kernel_rfl
theorem bsz:∀w:World,((kn!).isNs mp!&&(jU!:r7!).size==0,eo! kn!,(kn!).nsMap mp! "__annotations__")=(d!,11,(b! (y! 6))):=by
 intro w;kernel_rfl
noncomputable def zjh(w v:World)(os:OsState):bq! qe!:=z7I n6! qf! v 11 (b! (y! 6)) 12154 ⟨zpP sm!,11,(kn!).life,jU!,qg!,qh!,os⟩ (W.topStub qf!)
noncomputable def zl1(w:World)(s:W.SharedT):Bool:=W.staticsOk (sV! PySem.Challenge.pw_drawndown_k23_showings.main.body) kn! s.abs.heap&&W.namesBound qf! s.abs.heap&&W.gensDone iI!&&W.laidKept kn! s.abs.heap
noncomputable def seenQ(s:Shared):=W.openSeen qv looseQ (sV! PySem.Challenge.pw_drawndown_k23_showings.main.body) xtQ d! s
theorem zvR{α β γ δ:bD!}(x:α×β×γ×δ):(x.1,x.2.1,x.2.2.1,x.2.2.2)=x:=rfl
noncomputable def zoM(s:Shared):=((nh! s).1,(nh! s).2.1,(nh! s).2.2.1,(nh! s).2.2.2)
noncomputable def zp2:=((p0! qv).1,(p0! qv).2.1,(p0! qv).2.2.1,(p0! qv).2.2.2)
theorem zeW(s:Shared):zoM s=nh! s:=zvR _
theorem zfd:zp2=p0! qv:=zvR _
set_option maxRecDepth 1000000 in
theorem zaL:oK! (j7! (zjh w (jQ! q!) os) (zl1 w s,zqm 48 hl! iI!)) (d!,zq2 48 hl!):=by
 intro w os;kernel_rfl
set_option maxRecDepth 1000000 in
theorem zaG:oK! (j7! (zjh w (jQ! q!) os) (zpe 48 hl! iI!)) (zph 48 hl! (jQ! q!)):=by
 intro w os;kernel_rfl
theorem zaU(w:World)(os:OsState):j7! (zjh w (jQ! q!) os) (zl1 w s,obsS hl! iI!)=b! (d!,valS hl! (jQ! q!)):=zeU (zaL w os) (zaG w os)
set_option maxRecDepth 1000000 in
theorem zaW:oK! (j7! (zjh w (jQ! q!) os) (zoM iI!)) zp2:=by
 intro w os;kernel_rfl
theorem zbI(w:World)(os:OsState):j7! (zjh w (jQ! q!) os) (nh! iI!)=b! (p0! qv):=by
 have h:=zaW w os;simp only[zeW,zfd]at h;exact h
set_option maxRecDepth 1000000 in
theorem zbJ:oK! (j7! (zjh w (jQ! d!) os) (zl1 w s,zqm 48 hl! iI!)) (d!,zq2 48 hl!):=by
 intro w os;kernel_rfl
set_option maxRecDepth 1000000 in
theorem zcB:oK! (j7! (zjh w (jQ! d!) os) (zpe 48 hl! iI!)) (zph 48 hl! (jQ! d!)):=by
 intro w os;kernel_rfl
theorem zdo(w:World)(os:OsState):j7! (zjh w (jQ! d!) os) (zl1 w s,obsS hl! iI!)=b! (d!,valS hl! (jQ! d!)):=zeU (zbJ w os) (zcB w os)
set_option maxRecDepth 1000000 in
theorem zdT:oK! (j7! (zjh w (jQ! d!) os) (zoM iI!)) zp2:=by
 intro w os;kernel_rfl
theorem zdF(w:World)(os:OsState):j7! (zjh w (jQ! d!) os) (nh! iI!)=b! (p0! qv):=by
 have h:=zdT w os;simp only[zeW,zfd]at h;exact h
set_option maxRecDepth 1000000 in
theorem said_:W.OpenLaw.wellSaid PySem.Challenge.rw_drawndown_k23_showings=d!:=by kernel_rfl
end aW
namespace L2
noncomputable abbrev Key:=Sum Int Str
noncomputable def zdD:Key->eB! d2!
 | .inl k,v=>Value.isInt k v | .inr x,v=>Value.isStrOf x v
noncomputable def zx2(w:World):Key->Int
 | .inl k=>hashInt k | .inr x=>hashStr w x
theorem xh:∀{k:Key}{v:Value},zdD k v=d!->(∃i t,k=pi! i/\v=Value.int i t)\/(∃x t,k=Sum.inr x/\v=Value.str x t)
 | .inl i,v,h=>by
  obtain⟨t,e⟩:=Value.isInt_shape h;exact C! (fO! i t e) | .inr x,v,h=>by
  obtain⟨t,e⟩:=Value.isStrOf_shape h;exact T! (fO! x t e)
theorem z7E(x:Str)(t:Tok):zdD (T! x) (.str x t)=d!:=by simp[zdD,Value.isStrOf]
theorem zrI(a b:Int):bl! ((pi! a:Key)=pi! b)=(a==b):=by
 by_cases e:a=b;·subst e;simp
 ·rw[_U (λq=>e (Sum.inl.inj q))];exact (_bK.mpr e).symm
theorem zrP(a b:Str):bl! ((Sum.inr a:Key)=Sum.inr b)=jb! a b:=by
 by_cases e:a=b;·simp
 ·rw[_U (λq=>e (Sum.inr.inj q)),_U e]
theorem zq3(a:Int)(b:Str):bl! ((pi! a:Key)=Sum.inr b)=q!:=_U (λq=>nomatch q)
theorem zq9(a:Str)(b:Int):bl! ((Sum.inr a:Key)=pi! b)=q!:=_U (λq=>nomatch q)
noncomputable def wg(prog:Program)(w:World):PySem.KeyKind ni! w Key where
 is:=zdD;hash:=zx2 w;inj:=λv a b ha hb=>by
  rcases xh ha with⟨i,t,rfl,rfl⟩ | ⟨x,t,rfl,rfl⟩
  ·rcases xh hb with⟨j,u,rfl,e⟩ | ⟨y,u,rfl,e⟩;·injection e with e1 _;rw[e1]
   ·exact nomatch e
  ·rcases xh hb with⟨j,u,rfl,e⟩ | ⟨y,u,rfl,e⟩;·exact nomatch e
   ·injection e with e1 _;rw[e1]
 byValue:=λk v h=>by rcases xh h with⟨i,t,rfl,rfl⟩ | ⟨x,t,rfl,rfl⟩<;>rfl
 pyHash:=λhv h=>by
  rcases xh hv with⟨i,t,rfl,rfl⟩ | ⟨x,t,rfl,rfl⟩;·exact wpAny_pyHash_int h
  ·exact wpAny_pyHash_str h
 eqBool:=λhu hv h=>by
  rcases xh hu with⟨i,t,rfl,rfl⟩ | ⟨x,t,rfl,rfl⟩
  ·rcases xh hv with⟨j,u,rfl,rfl⟩ | ⟨y,u,rfl,rfl⟩;·rw[zrI]at h;exact _cc h
   ·rw[zq3]at h;exact SeqAt.EqAt.int_str i t y u _ _ _ _ h
  ·rcases xh hv with⟨j,u,rfl,rfl⟩ | ⟨y,u,rfl,rfl⟩;·rw[zq9]at h;exact SeqAt.EqAt.str_int x t j u _ _ _ _ h
   ·rw[zrP]at h;exact wpAny_eqBool_str h
 «strs» := λk x t v h=>by
  rcases xh h with⟨i,u,rfl,e⟩ | ⟨y,u,rfl,e⟩;·exact nomatch e
  ·injection e with e1 _;subst e1;cases v<;>rfl
theorem z8J(prog:Program)(w:World)(k:Key)(v:Value):(wg ni! w).is k v=zdD k v:=rfl
theorem zdd(prog:Program)(w:World)(x:Str)(t:Tok):(wg ni! w).is (T! x) (.str x t)=d!:=z7E x t
inductive V where | non | bl (b:Bool) | int (i:Int) | str (x:Str) | byt (b:Array UInt8) | flt (b:UInt64) | ref (a:Addr) | ty (n:String) deriving DecidableEq
def wQ:V->d2!->g!
 | .non,u=>u=Value.none | .bl b,u=>u=Value.bool b | .int i,u=>∃t,u=Value.int i t | .str x,u=>∃t,u=Value.str x t | .byt b,u=>∃t,u=Value.bytes b t | .flt b,u=>∃t,u=Value.float b t | .ref a,u=>u=lA! a | .ty n,u=>u=Value.type n
abbrev xt:aG!->bZ!->g!:=Paired wQ
theorem xt.length(r:jo!):w!=iK!:=Paired.length r
theorem xt.get:∀{xs:List V}{us:List Value}{i:Nat}{x:V},jo!->al! xs x->∃u,al! us u/\wQ x u
 | _,_,_,_,.nil,e=>by cases e | _,_,0,_,.cons r _,e=>by simp at e;subst e;exact aH! _ r | _,_,i+1,x,.cons _ t,e=>by
  obtain⟨u,h1,h2⟩:=xt.get t (by exact e);exact⟨u,by exact h1,h2⟩
theorem xt.set(r:wQ x u):∀{xs:List V}{us:List Value}(i:Nat),jo!->xt (iL! i x) (us.set i u)
 | _,_,_,.nil=>cD! | _,_,0,.cons _ t=>eX! r t | _,_,i+1,.cons q t=>eX! q (xt.set r i t)
theorem xt.append:∀{xs ys:List V}{us ws:List Value},jo!->xt ys ws->xt (xs++ys) (us++ws)
 | _,_,_,_,.nil,s=>s | _,_,_,_,.cons r t,s=>eX! r (xt.append t s)
theorem xt.take:∀{xs:List V}{us:List Value}(n:Nat),jo!->xt (nj! n) (us.take n)
 | _,_,0,_=>cD! | _,_,_+1,.nil=>cD! | _,_,n+1,.cons r t=>eX! r (xt.take n t)
theorem xt.drop:∀{xs:List V}{us:List Value}(n:Nat),jo!->xt (lB! n) (us.drop n)
 | _,_,0,r=>r | _,_,_+1,.nil=>cD! | _,_,n+1,.cons _ t=>xt.drop n t
def zvd:bq! V->aU!->g!
 | some v,some u=>wQ v u | none,none=>True | _,_=>False
def KV: i1! κ V->i1! κ d2!->g!:=Paired λ(p:κ×V)(q:κ×Value)=>p.1=q.1/\wQ p.2 q.2
noncomputable def kV:Key->V
 | .inl i=>U! | .inr x=>a1!
inductive HO where | lst (xs:aG!) | tup (xs:aG!) | dK (ah:i1! Key V) | dT (ah:i1! (em! Key) V) | set (S:eB! Int)(n:Nat) | ins (C dx:Addr)(fs:bU! V) | own (x:Addr) | xd (fs:bU! V) | met (f x:Addr) | rng (lo hi:Int) | frz (o:Obj)(u:HO) | tbl (ps:cF!) | ext (φ:Heap->g!)
abbrev Hp:=lx!->bq! HO
noncomputable def upd(H:Hp)(a:Addr)(o:HO):Hp:=λb=>ak! b a (b! o) (H b)
theorem yA: upd H a o a=b! o:=by unfold upd;rw[gD!]
theorem zM(h:b≠a):upd H a o b=H b:=by unfold upd;rw[_o h]
theorem znl: upd (cf! a o) a u=cf! a u:=by funext b;unfold upd;split<;>rfl
theorem xx{H:Hp} (h:ct! o)(h':fk!):a≠b:=by intro e;subst e;rw[h]at h';cases h'
def zgm(h:Heap)(a:Addr)(items:cF!):g!:=∃o,cK! a/\gp!=dR!/\o.dict=a!/\∃n,ih!=.seq hm! n
theorem zgm.tup{h:Heap}{a:Addr}{items:cF!}(x:zgm h a hm!):IsTup h a hm!:=let ⟨o,e,c,_,r⟩:=x;ck! o e c r
theorem zgm.new(h:Heap)(items:cF!):zgm (h.push {cls:=dR!,data:=.seq hm!}) jA! hm!:=⟨_,hh!,rfl,rfl,_,rfl⟩
theorem zgm.lt(x:zgm h a hm!):a<jA!:=x.tup.lt
section
variable (P:Program)(w:World)
def kC(H:Hp)(h:Heap)(a:Addr):HO->g!
 | .lst xs=>w!<=aY!/\∃(af:List Value)(n:Nat),xt xs af/\eK! a ({cls:=dk!,data:=oR! n}) | .tup xs=>w!<=aY!/\∃af:List Value,xt xs af/\zgm h a fE! | .dK ah=>ah.length<=aY!/\(a==sysModules)=q!/\∃vs,KV ah vs/\h.DictOf (wg P w) a vs | .dT ah=>ah.length<=aY!/\(a==sysModules)=q!/\∃xs:List (List Key×Addr×Value), qi! (λ(p:List Key×V)(q:List Key×Addr×Value)=>p.1=q.1/\H q.2.1=b! (n! (p.1.map kV))/\wQ p.2 q.2.2) ah xs/\ ∃o es ep,cK! a/\o.ExactDict/\ih!=.dict es ep/\es.toList=n7! (entryOfKey (tupleKind (wg P w)))/\(n7! (·.1)).Nodup | .set S n=>h.SetOf (intKind P w) a S n | .ins C dx fs=>H dx=b! (.own a)/\dv! fs.length/\dx≠a/\eK! a (W.instObj C dx)/\ ∃mA,h.Ns1 dx mA/\(∀f,zvd (fs.lookup f) (mA f))/\PySem.Within mA (fs.map (·.1)) | .own _=>∃o,cK! a | .xd fs=>∃mA,h.Ns1 a mA/\∀f,zvd (fs.lookup f) (mA f) | .rng lo hi=>∃t u v,eK! a ({cls:=mb!,data:=eY! #[ci! lo,bE! hi u,bE! 1 v]}) | .frz o u=>cK! a/\kC H h a u | .tbl ps=>eK! a ({cls:=ab!,data:=eY! ps}) | .met f x=>eK! a (W.methodObj ft! (y! x)) | .ext φ=>φ h/\(∃o,cK! a)/\∀h1 h2:Heap,φ h1->(∀o,h1.get? a=b! o->h2.get? a=b! o)->φ h2
def HOk(H:Hp)(h:Heap):g!:=∀a o,ct! o->kC P w H h a o
end
section
variable {P:Program}{w:World}{H H':Hp}{h h':Heap}{a:Addr}{o:HO}
theorem kC.lt(x:kC P w H h a o):a<jA!:=by cases o with
 | lst xs=>obtain⟨_,_,_,_,e⟩:=x;exact df! | tup xs=>obtain⟨_,_,_,p⟩:=x;exact p.lt | dK ah=>obtain⟨_,_,_,_,o,_,_,e,_⟩:=x;exact df! | dT ah=>obtain⟨_,_,_,_,o,_,_,e,_⟩:=x;exact df! | set S n=>obtain⟨o,_,_,_,e,_⟩:=x;exact df! | ins C dx fs=>obtain⟨_,_,_,e,_⟩:=x;exact df! | own y=>obtain⟨_,e⟩:=x;exact df! | xd fs=>obtain⟨_,⟨_,_,_,e,_⟩,_⟩:=x;exact df! | rng lo hi=>obtain⟨_,_,_,e⟩:=x;exact df! | frz ob u=>obtain⟨e,_⟩:=x;exact df! | tbl ps=>exact _s (x) | met f y=>exact _s (x) | ext φ=>obtain⟨_,⟨_,e⟩,_⟩:=x;exact df!
theorem Paired.mapP: ∀{l₁:List α}{l₂:List β},qi! F l₁ l₂->(∀a b,F a b->G a b)->qi! G l₁ l₂
 | _,_,.nil,_=>cD! | _,_,.cons r t,f=>eX! (f _ _ r) (Paired.mapP t f)
theorem kC.stay(x:kC P w H h a o)(k:∀b u,(b=a\/cY! (.own a))->eK! b u->gw! b u) (ho:∀b,cY! (.own a)->H' b=b! (.own a))(ht:∀b xs,cY! af!->H' b=b! af!):kC P w H' h' a o:=by induction o with
 | lst xs=>obtain⟨z,af,n,r,e⟩:=x;exact⟨z,af,n,r,k _ _ c7! e⟩ | tup xs=>obtain⟨z,af,r,ob,e,c⟩:=x;exact⟨z,af,r,ob,k _ _ c7! e,c⟩ | dK ah=>obtain⟨z,y,vs,r,ob,es,ep,e,c⟩:=x;exact⟨z,y,vs,r,ob,es,ep,k _ _ c7! e,c⟩ | dT ah=>
  obtain⟨z,y,xs,r,ob,es,ep,e,c⟩:=x;exact⟨z,y,xs,Paired.mapP r λp q z=>⟨z.1,ht _ _ z.2.1,z.2.2⟩,ob,es,ep,k _ _ c7! e,c⟩ | set S n=>obtain⟨ob,es,ep,t,e,c⟩:=x;exact⟨ob,es,ep,t,k _ _ c7! e,c⟩ | ins C dx fs=>
  obtain⟨d,z,ne,e,mA,⟨od,es,ep,e2,c⟩,r⟩:=x;exact⟨ho _ d,z,ne,k _ _ c7! e,mA,⟨od,es,ep,k _ _ (T! d) e2,c⟩,r⟩ | own y=>obtain⟨ob,e⟩:=x;exact⟨ob,k _ _ c7! e⟩ | xd fs=>obtain⟨mA,⟨od,es,ep,e,c⟩,r⟩:=x;exact a3! mA ⟨od,es,ep,k _ _ c7! e,c⟩ r | rng lo hi=>obtain⟨t,u,v,e⟩:=x;exact⟨t,u,v,k _ _ c7! e⟩ | frz ob u ih=>obtain⟨e,q⟩:=x;exact⟨k _ _ c7! e,ih q⟩ | tbl ps=> exact k a _ c7! x | met f y=> exact k a _ c7! x | ext φ=>obtain⟨p,⟨o,e⟩,st⟩:=x;exact⟨st _ _ p λo q=>k _ _ c7! q,⟨o,k _ _ c7! e⟩,st⟩
theorem HOk.lt(x:HOk P w H h)(e:ct! o):a<jA!:=(x a o e).lt
theorem HOk.fresh(x:HOk P w H h)(e:jA!<=a):H a=a!:=by cases q:H a with
 | none=>rfl | some u=>exact k9! (_j (x.lt q) e) _
theorem HOk.kept(x:HOk P w H h)(k:∀b u,eK! b u->gw! b u):HOk P w H h':=λa o e=> (x a o e).stay (λb u _ q=>k b u q) (λ_ q=>q) λ_ _ q=>q
theorem HOk.laid(x:HOk P w H h)(k:∀b u,eK! b u->gw! b u)(hp:jA!<=a)(new:kC P w (cf! a o) h' a o):HOk P w (cf! a o) h':=λb u e=>by
 have hn:=x.fresh hp;by_cases hb:b=a;·subst hb;rw[yA]at e;cases e;exact new
 ·rw[zM hb]at e;exact (x b u e).stay (λc v _ q=>k c v q) (λc q=>by rw[zM (xx q hn)];exact q) λc xs q=>by rw[zM (xx q hn)];exact q
end
def Rd(H:Hp)(a:Addr)(u:HO):g!:=ct! u\/∃o,ct! (ec! u)
theorem Rd.ok(r:Rd H a u)(x:HOk P w H h):kC P w H h a u:=by
 rcases r with r | ⟨o,r⟩;·exact x a u r
 ·obtain⟨_,q⟩:=x a _ r;exact q
def Mut:bq! HO->g!
 | some (.lst _)=>True | some (.dK _)=>True | some (.dT _)=>True | some (.set _ _)=>True | some (.ins _ _ _)=>True | some (.ext _)=>True | _=>False
section
variable {P:Program}{w:World}{H:Hp}{h h':Heap}{x e:Addr}{o':HO}
theorem HOk.write(ok:HOk P w H h)(mu:Mut (H x))(he:e=x\/H e=b! (.own x))(k:∀b u,b≠e->eK! b u->gw! b u)(dR:∃u,gw! e u) (new:kC P w (cf! x o') h' x o'):HOk P w (cf! x o') h':=λb u q=>by
 have er:∀c y,H c=b! (.own y)->c≠x:=λc y r z=>by subst z;rw[r]at mu;exact mu
 by_cases hb:b=x;·subst hb;rw[yA]at q;cases q;exact new
 ·rw[zM hb]at q;by_cases dy:b=e
  ·have q':cY! (.own x):=by
    rcases he with z | z;·exact bO! (dy.trans z) hb
    ·rw[dy];exact z
   rw[q]at q';cases q';obtain⟨v,hv⟩:=dR;exact⟨v,by rw[dy];exact hv⟩
  ·refine (ok b u q).stay (λc v hc r=>k c v ?_ r) (λc r=>by rw[zM (er c b r)];exact r) λc xs r=>by rw[zM ((λc xs r z=>by subst z;rw[r]at mu;exact mu) c xs r)];exact r
   rcases hc with rfl | hc;·exact dy
   ·rintro rfl;rcases he with z | z;·exact er c b hc z
    ·rw[hc]at z;cases z;exact hb rfl
end
structure Un(fs ex:ao!)(H H':Hp)(h h':Heap):g! where
 keep:bJ! (cK! b->fk!->b∉fs->b∉ex->dK! b)
 slot:bJ! (cK! b->fk!->b∈fs->b∉ex->∃sl,gw! b ({o with slots:=sl}))
 free:bJ! (cK! b->fk!->b∉ex->gf! b)
 there:bJ! (cK! b->b∉ex->∃o',gw! b o')
 tups:∀b xs,cY! af!->H' b=b! af!
 frzs:∀b o u,cY! (ec! u)->H' b=b! (ec! u)
 tbls:∀b ps,cY! (.tbl ps)->∃more,H' b=b! (.tbl (ps++more))
section
variable {fs dU ex pN:ao!}{H H1 H2:Hp}{h h1 h2 h':Heap}{a x e:Addr}{o:HO}
theorem Un.any(u:Un fs ex H H1 h h1) (q:eK! b ob)(n:fk!)(hx:b∉ex):∃sl,h1.get? b=b! ({ob with slots:=sl}):=by
 by_cases hb:b∈fs;·exact u.slot b ob q n hb hx
 ·exact⟨ob.slots,u.keep b ob q n hb hx⟩
theorem Un.kept(k:∀b u,eK! b u->gw! b u):Un fs ex H H h h':= ⟨λb ob q _ _ _=>k b ob q,λb ob q _ _ _=>⟨ob.slots,k b ob q⟩,λ_ _ _ n _=>n,λb ob q _=>⟨ob,k b ob q⟩,λ_ _ q=>q,λ_ _ _ q=>q,λ_ ps q=>⟨#[],by rw[q];rfl⟩⟩
theorem Un.refl:Un fs ex H H h h:=Un.kept λ_ _ q=>q
theorem Un.laid(k:∀b u,eK! b u->gw! b u)(hp:jA!<=a)(hn:H a=a!):Un fs ex H (cf! a o) h h' where
 keep:=λb u q _ _ _=>k b u q;slot:=λb u q _ _ _=>⟨u.slots,k b u q⟩;free:=λb u q n _=>by rw[zM (_E (_j (_s q) hp))];exact n
 there:=λb u q _=>⟨u,k b u q⟩;tups:=λb xs q=>by rw[zM (xx q hn)];exact q
 frzs:=λb u xs q=>by rw[zM (xx q hn)];exact q
 tbls:=λb ps q=>⟨#[],by rw[zM (xx q hn),q];rfl⟩
theorem Un.write(mu:Mut (H x))(he:e=x\/H e=b! (.own x))(k:∀b u,b≠e->eK! b u->gw! b u)(dR:∃u,gw! e u):Un fs ex H (cf! x o) h h':=by
 have hx:∀b,fk!->b≠x:=λb n z=>by subst z;rw[n]at mu;exact mu
 have hb:∀b,fk!->b≠e:=λb n z=>by
  subst z;rcases he with r | r;·exact hx b n r
  ·rw[n]at r;cases r
 have hm:∀b u,cY! u->¬ Mut (b! u)->b≠x:=λb u q nm z=>by subst z;rw[q]at mu;exact nm mu
 refine⟨λb u q n _ _=>k b u (hb b n) q,λb u q n _ _=>⟨u.slots,k b u (hb b n) q⟩,λb u q n _=>by rw[zM (hx b n)];exact n,λb u q _=>?_, λb xs q=>by rw[zM (hm b _ q λz=>z)];exact q,λb u xs q=>by rw[zM (hm b _ q λz=>z)];exact q,λb ps q=>⟨#[],by rw[zM (hm b _ q λz=>z),q];rfl⟩⟩;by_cases dy:b=e;·subst dy;exact dR
 ·exact⟨u,k b u dy q⟩
end
noncomputable def trk(h:Heap)(H:Hp):ao!:=kP! (iM! jA!) (λa=>gq! (H a))
noncomputable def zpg(h:Heap)(H:Hp):Heap:=W.hideAll h (trk h H)
theorem zgw(h:Heap)(H:Hp):eo! (zpg h H)=jA!:=W.hideAll_size _ _
theorem zkq(e:cK! b)(n:fk!):fi! (zpg h H) b o:= W.hideAll_get _ e λhm=>by
  have q := (_bp.mp hm).2;rw[n]at q;cases q
theorem zp8(e:fi! (zpg h H) b o):cK! b/\fk!:=by
 have e' := W.of_hideAll (trk h H) e;refine as! e' ?_;cases q:H b with
 | none=>rfl | some x=>
  have z:(zpg h H).get? b=a!:=W.hideAll_none (trk h H) (_bp.mpr ⟨_aO.mpr (_s e'),by simp[q]⟩);rw[z]at e;cases e
noncomputable def zoz(g h:Heap)(L:Addr):dp!:=r5! jA! (λa=>an! (a=L\/gq! (g.get? a)=d!) a! ((qd! a).map λo=>(a,o)))
noncomputable def kE(g h:Heap)(L d:Addr):dp!:=mY! (zoz g h L) (cz! p.1 d)
structure Mod(K:W.Frag)(mg:Str->aU!)(base:Heap):g! where
 kin:K.In R!
 glob:sB! mg
 blt:∃mb,base.Ns builtinsNs mb/\∀x:Str,mc! x->mb x=lC! x
 nolimit:base.NoLimit
structure Cx where
 prog:Program
 w:World
 K:W.Frag
 mg:Str->aU!
 base:Heap
 A:Around
 N:aq!
 s₀:Shared
 H₀:Hp
 env:Env
 outer:mV!
 stack:mV!
 ex:ao!
 fn:eB! Str
 calm:Bool
 pn:dp!
 xe:b1!
noncomputable def frs(l:mV!):ao!:=l.filterMap (·.frame)
noncomputable abbrev Cx.fs(X:Cx):ao!:=frs kQ!
def Vis(sc:Scope)(x:Str):g!:=oN!=b! pj!\/oN!=dH!\/oN!=b! bY!
def Loc(sc:Scope)(x:Str):g!:=oN!=b! pj!\/oN!=dH!
def zwu(env:Env)(h:Heap)(m:Str->aU!)(x:Str)(u:Value):g!:= (sQ! x=b! pj!/\m x=b! u)\/((sQ! x=dH!\/sQ! x=b! bY!)/\∃c,env.cells.lookup x=b! c/\h.IsCell c (b! u))
structure Cx.Ok(X:Cx):g! where
 mod:Mod X.K fG! fm!
 kind:X.env.scope.kind=sl!
 glob:X.env.globals=mp!
 blt:X.env.builtins=builtinsNs
 above:X.s₀.heap.objs.size<=j9!
 inj:∀x y c,gX! x c->gX! y c->x=y
 has:∀x,(fY! x=dH!\/fY! x=b! bY!)->∃c,gX! x c
 cab:∀x c,f8! x->gX! x c->X.s₀.heap.objs.size<=c
 hd:b0!->X.A.handled=a!
 frames:X.A.frames=b! jB!
 stk:jB!=kQ!\/(jB!=az!::kQ!/\X.env.frame=b! j9!)
 exf:∀b∈X.ex,i2! b/\∀x c,gX! x c->c≠b
 bs:bJ! (r9!=b! o->rY!=b! o/\X.H₀ b=a!)
 bsz:X.base.objs.size<=X.s₀.heap.objs.size
 noex:bJ! (r9!=b! o->b∉lD!)
 exfs:∀b∈X.ex,b∉jC!
 funs:X.s₀.heap.FunFrames fm! kQ!
 frf:∀b∈X.fs,X.H₀ b=a!
structure Inv(X:Cx)(ae:dp!)(O:mB! V)(H:Hp)(s:Shared):g! where
 ok:X.Ok
 os:s.os=X.s₀.os
 bare:rP! s.gens
 base:Un jC! lD! X.H₀ H X.s₀.heap L!
 loc:∃m,s.heap.Ns j9! m/\∀(i:Nat)(x:Str)(v:V),ga! x->al! O bV!->sJ! x->∃u,wQ v u/\zwu az! L! m x u
 cell:∀x c,gX! x c->∃v,s.heap.IsCell c v
 free:H j9!=a!
 freeC:∀x c,gX! x c->H c=a!
 pin:∀p∈iN!++ae,f3! p.1 p.2/\H p.1=a!/\i2! p.1/\p.1∉jC!/\∀v,p.2.data≠.cell v
 hok:HOk aV! X.w H L!
 len:qj!=X.N.length
section
variable {X:Cx}{ae:dp!}{O:mB! V}{H H':Hp}{s:Shared}{h':Heap}
theorem Cx.Ok.nofr(ok:X.Ok) (e:r9!=b! o):b∉jC!:=λhb=>by
 have:=(ok.funs.mem hb).1;rw[e]at this;cases this
theorem Inv.bs(I:N!):bJ! (r9!=b! o->dx! b/\fk!):=gQ! ⟨qk! b o (I.ok.bs b o e).1 (I.ok.bs b o e).2 (I.ok.nofr e) (I.ok.noex b o e),ql! b o (I.ok.bs b o e).1 (I.ok.bs b o e).2 (I.ok.noex b o e)⟩
theorem Inv.bk(I:N!):bJ! (r9!=b! o->dx! b):=gQ! (I.bs b o e).1
theorem Inv.mod(I:N!):Mod X.K fG! fm!:=I.ok.mod
theorem Inv.kIn(I:N!):X.K.In L!:=I.ok.mod.kin.keeps I.bk
theorem Inv.fr(I:N!):∃m,Fr fm! j9! L! m:= let ⟨m,hn,_⟩:=I.loc;⟨m,hn,I.bk,_G I.ok.bsz n8!⟩
theorem Inv.lt(I:N!):j9!<at!:=let ⟨_,hn,_⟩:=I.loc;hn.lt
theorem Inv.sz(I:N!):X.s₀.heap.objs.size<=at!:=_G n8! (_bg I.lt)
theorem Inv.nofs(I:N!){a:Addr}(h:at!<=a):a∉jC!:=λhb=>by
 obtain⟨_,o,ho,_⟩:=I.ok.funs.mem hb;exact k9! (_j (_s ho) (_G I.sz h)) _
theorem Inv.cne(I:N!):∀x c,gX! x c->i2! c:=λx c e z=>by
 obtain⟨v,o,ho,hd⟩:=mq! x c e;obtain⟨m,⟨o',es,ep,bW,gB,_⟩,_⟩:=I.loc;rw[z,bW]at ho;cases ho;rw[gB]at hd;cases hd
theorem Inv.funs(I:N!):s.heap.FunFrames fm! kQ!:=(show ∀(l:List Env),(∀b∈frs l,b∈jC!)->X.s₀.heap.FunFrames fm! l->s.heap.FunFrames fm! l from by
  intro l;induction l with
  | nil=>intro _ _;trivial | cons env r ih=>
   intro hs hl;obtain⟨hk,⟨L,o,hf,hn,ho,hd⟩,hr⟩:=hl;have hL := hs L (by unfold frs;rw[_bL,hf];exact _am);obtain⟨sl,e⟩:=qm! L o ho (I.ok.frf L hL) hL (λz=>I.ok.exfs L z hL);exact⟨hk,⟨L,_,hf,hn,e,hd⟩,ih (cv! (hs b (by unfold frs;rw[_bL,hf];exact _K _ hb))) hr⟩) kQ! (λ_ hb=>hb) I.ok.funs
theorem Inv.stack(I:N!):s.heap.FunFrames fm! jB!:=by
 rcases I.ok.stk with e | ⟨e,hf⟩;·rw[e];exact I.funs
 ·rw[e];obtain⟨m,hn,_⟩:=I.loc;exact .cons (by rw[I.ok.kind];decide) hf hn (Heap.get?_none_of_le (_G I.ok.bsz n8!)) I.funs
theorem Inv.stkSub(I:N!):∀b∈frs jB!,b∈j9!::jC!:=cv! (by
 rcases I.ok.stk with e | ⟨e,hf⟩;·rw[e]at hb;exact _K _ hb
 ·rw[e]at hb;unfold frs at hb;rw[_bL,hf]at hb;exact hb)
theorem Inv.stkFree(I:N!):∀b∈frs jB!,fk!:=cv! (by
 rcases ep! (I.stkSub b hb) with e | hb;·rw[e];exact I.free
 ·obtain⟨_,o,ho,_⟩:=I.ok.funs.mem hb;exact ql! b o ho (I.ok.frf b hb) (λz=>I.ok.exfs b z hb))
theorem Inv.step{g':r7!}{t':Nat}{d':Drawn}{ch:ao!}(I:N!) (cN:∀b∈ch,(b∈lD!\/X.s₀.heap.objs.size<=b)/\i2! b/\(∀x c,gX! x c->c≠b)/\∀p∈iN!++ae,p.1≠b) (keep:bJ! (i2! b->b∉jC!->b∉ch->dx! b->fk!->dK! b)) (slot:bJ! (i2! b->b∈jC!->b∉ch->dx! b->fk!->∃sl,gw! b ({o with slots:=sl})))(free:bJ! (b∉ch->dx! b->fk!->gf! b)) (there:bJ! (b∉ch->dx! b->∃o',gw! b o')) (tups:∀b xs,cY! af!->H' b=b! af!)(frzs:∀b o u,cY! (ec! u)->H' b=b! (ec! u))(tbls:∀b ps,cY! (.tbl ps)->∃more,H' b=b! (.tbl (ps++more))) (ns:∀m,s.heap.Ns j9! m->h'.Ns j9! m)(hok:HOk aV! X.w H' h')(hg:rP! g'): cQ! H' ({s with heap:=h',gens:=g',drawn:=d',toks:=t'}):=by
 have dW:bJ! (rY!=b! o->i2! b):=gQ! (_E (_j df! n8!));have fS:bJ! (rY!=b! o->b∉lD!->b∉ch):=λb o e hx hb=>by
  rcases (cN b hb).1 with z | z;·exact hx z
  ·exact k9! (_j df! z) _
 have cZ:∀x c,gX! x c->∀v,s.heap.IsCell c v->h'.IsCell c v:=λx c e v ⟨o,ho,hd⟩=>by
  have eA := λz=>(cN c z).2.2.1 x c e rfl;by_cases hc:c∈jC!
  ·obtain⟨sl,q⟩:=slot c o (I.cne x c e) hc eA ho (I.freeC x c e);exact bQ! q hd
  ·exact cB! (keep c o (I.cne x c e) hc eA ho (I.freeC x c e)) hd
 refine⟨nk!,ka!,hg,⟨qn! (keep b o (dW b o e) hb (fS b o e hx) (qk! b o e n hb hx) (ql! b o e n hx)),qn! ?_,λb o e n hx=>?_,λb o e hx=>?_,λb xs e=>tups b xs (I.base.tups b xs e),λb o xs e=>frzs b o xs (I.base.frzs b o xs e),λb ps e=>?_⟩,?_,λx c e=>?_,?_,λx c e=>?_,bs! ?_,hok,lE!⟩
 ·obtain⟨sl,e1⟩:=qm! b o e n hb hx;obtain⟨iS,e2⟩:=slot b _ (dW b o e) hb (fS b o e hx) e1 (ql! b o e n hx);exact as! iS e2
 ·obtain⟨o',e1⟩:=oW! o e hx;exact free b o' (fS b o e hx) e1 (ql! b o e n hx)
 ·obtain⟨o',e1⟩:=oW! o e hx;exact there b o' (fS b o e hx) e1
 ·obtain⟨m1,e1⟩:=I.base.tbls b ps e;obtain⟨m2,e2⟩:=tbls b _ e1;exact⟨m1++m2,by rw[e2,Array.append_assoc]⟩
 ·obtain⟨m,hn,hl⟩:=I.loc;refine⟨m,ns m hn,λi x v e1 e2 e3=>?_⟩;obtain⟨u,r,l⟩:=hl i x v e1 e2 e3;refine a3! u r ?_;rcases l with l | ⟨k,c,e,z⟩;·exact C! l
  ·exact T! ⟨k,c,e,cZ x c e _ z⟩
 ·obtain⟨v,z⟩:=mq! x c e;exact⟨v,cZ x c e v z⟩
 ·obtain⟨m,⟨o,_,_,ho,_⟩,_⟩:=I.loc;exact free _ o (λz=>(cN _ z).2.1 rfl) ho iO!
 ·obtain⟨v,o,ho,hd⟩:=mq! x c e;exact free c o (λz=>(cN c z).2.2.1 x c e rfl) ho (I.freeC x c e)
 ·obtain⟨e,n,ne,nf,d⟩:=lr! hp;have eA := λz=>(cN p.1 z).2.2.2 p hp rfl;exact⟨keep p.1 p.2 ne nf eA e n,free p.1 p.2 eA e n,ne,nf,d⟩
theorem Inv.un(I:N!)(u:Un jC! [] H H' L! h')(hok:HOk aV! X.w H' h'):cQ! H' ({s with heap:=h',toks:=t'}):=by
 obtain⟨m,⟨o,es,ep,ho,r⟩,_⟩:=id mr!;obtain⟨sl,hL⟩:=u.any ho iO! (by simp);exact I.step (ch:=[]) (λ_ z=>nomatch z) (λb o _ hb _ e n=>u.keep b o e n hb (by simp)) (λb o _ hb _ e n=>u.slot b o e n hb (by simp)) (λb o _ e n=>u.free b o e n (by simp)) (λb o _ e=>u.there b o e (by simp)) u.tups u.frzs u.tbls (λm' hm=>by
  obtain⟨o',gC,gD,bW,r'⟩:=hm;rw[ho]at bW;cases bW;exact⟨_,gC,gD,hL,r'⟩) hok I.bare
theorem Inv.call(I:N!)(u:Un (frs jB!) ch H H' L! h')(hok:HOk aV! X.w H' h')(hg:rP! g') (cN:∀b∈ch,(b∈lD!\/X.s₀.heap.objs.size<=b)/\i2! b/\(∀x c,gX! x c->c≠b)/\∀p∈iN!++ae,p.1≠b): cQ! H' ({s with heap:=h',gens:=g',drawn:=d',toks:=t'}):=by
 obtain⟨m,⟨o,es,ep,ho,r⟩,_⟩:=id mr!;obtain⟨sl,hL⟩:=u.any ho iO! λz=>(cN _ z).2.1 rfl;exact I.step cN (λb o hL hb hc e n=>u.keep b o e n (λz=>(ep! (I.stkSub b z)).elim hL hb) hc) (λb o _ _ hc e n=>u.any e n hc) (λb o hc e n=>u.free b o e n hc) (λb o hc e=>u.there b o e hc) u.tups u.frzs u.tbls (λm' hm=>by
  obtain⟨o',gC,gD,bW,r'⟩:=hm;rw[ho]at bW;cases bW;exact⟨_,gC,gD,hL,r'⟩) hok hg
theorem Inv.turned(I:N!)(k:bJ! (b≠it->dx! b->dK! b))(hn:H it=a!)(hL:i2! it) (h1:it∈lD!\/X.s₀.heap.objs.size<=it)(h2:∀x c,gX! x c->c≠it)(h3:∀p∈iN!++ae,p.1≠it):l4! ({s with heap:=h',toks:=t'}):=by
 have eB:∀b u,cY! u->b≠it:=λb u e z=>by rw[z,hn]at e;cases e
 refine I.step (ch:=[it]) (cv! ?_) (λb o _ _ hc e _=>k b o (λz=>hc (by simp[z])) e) (λb o _ _ hc e _=>⟨o.slots,k b o (λz=>hc (by simp[z])) e⟩) (λ_ _ _ _ n=>n) (λb o hc e=>⟨o,k b o (λz=>hc (by simp[z])) e⟩) (λ_ _ e=>e) (λ_ _ _ e=>e) (λb ps e=>⟨#[],by rw[e];rfl⟩) (λm hm=>?_) (λb u e=>?_) I.bare
 ·have e:b=it:=by simpa using hb
  subst e;exact ck! h1 hL h2 h3
 ·obtain⟨o,es,ep,ho,r⟩:=hm;exact⟨o,es,ep,k _ o (_bT hL) ho,r⟩
 ·refine (n9! b u e).stay (λc v hc q=>k c v ?_ q) (λ_ q=>q) λ_ _ q=>q;rcases hc with z | z;·rw[z];exact eB b u e
  ·exact eB c _ z
theorem Inv.tok(I:N!)(t:Nat):l4! ({s with toks:=t}):=I.un Un.refl eZ!
theorem Inv.kept(I:N!)(k:∀b u,f3! b u->gw! b u):l4! ({s with heap:=h',toks:=t'}):=I.un (Un.kept k) (I.hok.kept k)
theorem Inv.laid{a:Addr} (I:N!) (k:∀b u,f3! b u->gw! b u) (hp:at!<=a) (new:kC aV! X.w (cf! a o) h' a o): cQ! (cf! a o) ({s with heap:=h',toks:=t'}):=I.un (Un.laid k hp (sn! hp)) (I.hok.laid k hp new)
theorem Inv.write(I:N!) (mu:Mut (H x)) (he:e=x\/H e=b! (.own x)) (k:∀b u,b≠e->f3! b u->gw! b u) (dR:∃u,gw! e u) (new:kC aV! X.w (cf! x o) h' x o):cQ! (cf! x o) ({s with heap:=h',toks:=t'}):=I.un (Un.write mu he k dR) (I.hok.write mu he k dR new)
theorem Inv.weak(I:N!)(hl:O'.length=qj!)(w:∀(i:Nat) v,al! O' bV!->al! O bV!):k3! O' H s:= ⟨nk!,ka!,jD!,oa!,let ⟨m,hn,eD⟩:=I.loc;⟨m,hn,λi x v e1 e2 e3=>eD i x v e1 (w i v e2) e3⟩,ob!,iO!,lF!,I.pin,eZ!,hl.trans lE!⟩
theorem Inv.pins_of(I:N!)(h:∀p∈pins',f3! p.1 p.2/\H p.1=a!/\i2! p.1/\p.1∉jC!/\∀v,p.2.data≠.cell v):Inv X pins' O H s:= ⟨nk!,ka!,jD!,oa!,mr!,ob!,iO!,lF!,bs! (m1! hp (λz=>lr! (_a9 _ z)) (h p)),eZ!,lE!⟩
theorem zei{N:aq!}(hN:N.Nodup){i j:Nat} (a:al! N x)(b:G! N j x):i=j:=by
 obtain⟨h1,e1⟩:=oc! a;obtain⟨h2,e2⟩:=oc! b;exact (_a2 hN).mp (e1.trans e2.symm)
theorem z7J(I:N!)(hN:X.N.Nodup)(hi:ga! x)(hx:gZ! x)(r:wQ v u) (h:∀s',k3! (lb! i) H s'->(∃a,Heap.SameBut a L! gR!/\(a=j9!\/gX! x a))->Q () s')(hf:g0! (f8! x\/e7! x)):fR! M A (storeName az! x u) Q E:=by
 obtain⟨m,hn,hl⟩:=id mr!;have iV:i<qj!:=by rw[I.len];exact cV! hi
 have cne:=I.cne;have bP:∀{a:Addr}{h':Heap},(∃o,dx! a/\H a=a!)->Heap.SameBut a L! h'->HOk aV! X.w H h':=λ{a h'} ha hs b ob e=>by
  obtain⟨_,_,c7⟩:=ha;refine (n9! b ob e).stay (λc w' hc q=>aJ! (hs.2 c ?_) q) (λ_ q=>q) λ_ _ q=>q;rintro rfl;rcases hc with rfl | hc;·rw[c7]at e;cases e
  ·rw[c7]at hc;cases hc
 rcases hx with hk | hk
 ·refine wpAny_storeName_local hk hn (λh' me hs=>?_) (by rw[I.ok.kind];rfl);obtain⟨oL,_,_,mi,_⟩:=id hn;refine h _ ⟨nk!,ka!,jD!,⟨qn! ?_,qn! ?_,I.base.free,λb o e hx=>?_,I.base.tups,I.base.frzs,I.base.tbls⟩,bQ! me (λj y v' e1 e2 e3=>?_),λy c e=>?_,iO!,lF!,bs! ?_,bP ⟨oL,mi,iO!⟩ hs,by simpa using I.len⟩ (bQ! hs c7!);·exact aJ! (hs.2 b (_E (_j df! n8!))) (qk! b o e n hb hx)
  ·obtain⟨sl,e1⟩:=qm! b o e n hb hx;exact⟨sl,aJ! (hs.2 b (_E (_j df! n8!))) e1⟩
  ·obtain⟨o',e1⟩:=oW! o e hx;exact⟨o',aJ! (hs.2 b (_E (_j df! n8!))) e1⟩
  ·by_cases hj:j=i
   ·subst hj;rw[hi]at e1;cases e1;rw[_aj iV]at e2;cases e2;exact⟨u,r,C! ⟨hk,by simp⟩⟩
   ·rw[_ac (_bT hj)]at e2;obtain⟨u',r',q⟩:=hl j y v' e1 e2 e3;refine a3! u' r' ?_;rcases q with⟨k,e⟩ | ⟨k,c,e,z⟩
    ·refine C! ⟨k,?_⟩;have:y≠x:=λe=>hj (zei hN e1 (e ▸ hi));simp[this,e]
    ·exact T! ⟨k,c,e,z.sameBut hs (cne y c e)⟩
  ·obtain⟨w',z⟩:=mq! y c e;exact⟨w',z.sameBut hs (cne y c e)⟩
  ·obtain⟨e,n,ne,nf,d⟩:=lr! hp;exact⟨aJ! (hs.2 p.1 ne) e,n,ne,nf,d⟩
 ·have gE:f8! x:=by
   rcases hf with z | z;·exact z
   ·rw[z]at hk;cases hk
  obtain⟨c,hc⟩:=I.ok.has x (C! hk);obtain⟨w',z⟩:=mq! x c hc;refine wpAny_storeName_cell qo! hk hc z (λh' cz hs=>?_);obtain⟨oc,iX,gF⟩:=id z;refine h {s with heap:=h'} ⟨nk!,ka!,jD!,⟨qn! (aJ! (hs.2 b (_E (_j df! (I.ok.cab x c gE hc)))) (qk! b o e n hb hx)),qn! ?_,I.base.free,λb o e hx=>?_,I.base.tups,I.base.frzs,I.base.tbls⟩,⟨m,hn.sameBut hs (_bT (cne x c hc)),λj y v' e1 e2 e3=>?_⟩,λy c' e=>?_,iO!,lF!,bs! ?_,bP ⟨oc,iX,I.freeC x c hc⟩ hs,by simpa using I.len⟩ ⟨c,hs,T! hc⟩
  ·obtain⟨sl,e1⟩:=qm! b o e n hb hx;exact⟨sl,aJ! (hs.2 b (_E (_j df! (I.ok.cab x c gE hc)))) e1⟩
  ·obtain⟨o',e1⟩:=oW! o e hx;exact⟨o',aJ! (hs.2 b (_E (_j df! (I.ok.cab x c gE hc)))) e1⟩
  ·by_cases hj:j=i
   ·subst hj;rw[hi]at e1;cases e1;rw[_aj iV]at e2;cases e2;exact⟨u,r,T! ⟨C! hk,c,hc,cz⟩⟩
   ·rw[_ac (_bT hj)]at e2;obtain⟨u',r',q⟩:=hl j y v' e1 e2 e3;refine a3! u' r' ?_;rcases q with q | ⟨k,c',e,z'⟩;·exact C! q
    ·refine T! ⟨k,c',e,z'.sameBut hs ?_⟩;rintro rfl;exact hj (zei hN e1 (I.ok.inj _ _ _ e hc ▸ hi))
  ·by_cases hcc:c'=c;·subst hcc;exact f9! cz
   ·obtain⟨w2,z2⟩:=mq! y c' e;exact⟨w2,z2.sameBut hs hcc⟩
  ·obtain⟨e,n,ne,nf,d⟩:=lr! hp;refine⟨aJ! (hs.2 p.1 ?_) e,n,ne,nf,d⟩;intro q;rw[q,iX]at e;exact d w' (by rw[<- (_p e)];exact gF)
theorem z3q(I:N!)(hN:X.N.Nodup)(hi:ga! x)(hx:gZ! x)(r:wQ v u) (h:∀s',k3! (lb! i) H s'->Q () s')(hf:g0! (f8! x\/e7! x)):fR! M A (storeName az! x u) Q E:= z7J I hN hi hx r (λs' I' _=>h s' I') hf
theorem Inv.call'(I:N!)(ho:qp!=s.os)(u:Un (frs jB!) ch H H' L! gR!)(hok:HOk aV! X.w H' gR!)(hg:rv!) (cN:∀b∈ch,(b∈lD!\/X.s₀.heap.objs.size<=b)/\i2! b/\(∀x c,gX! x c->c≠b)/\∀p∈iN!++ae,p.1≠b):cQ! H' s':=by
 obtain⟨h',g',d',t',o'⟩:=s';subst ho;exact I.call u hok hg cN
end
abbrev XK:=d2!->oY!->bW!
noncomputable abbrev St:=mB! V
abbrev VK:=V->bW!
abbrev TE:=St->Hp->eU!
abbrev TT:=St->Hp->(cj!->bW!)->g!
abbrev TA:=St->Hp->(aG!->bW!)->g!
structure zme where
 nx:St->bW!
 rt:VK
 bk:St->bW!:=i4!
 ct:St->bW!:=i4!
abbrev TS:=zme->St->bW!
def EP(X:Cx)(ae:dp!)(O:St)(Q:VK)(u:Value)(s':Shared):g!:=∃v H',cQ! H' s'/\wQ v u/\Q v H'
def TP(X:Cx)(ae:dp!)(O:St)(Q:cj!->bW!)(b:Bool)(s':Shared):g!:=∃H',cQ! H' s'/\Q b H'
def AP(X:Cx)(ae:dp!)(O:St)(Q:aG!->bW!)(us:bZ!)(s':Shared):g!:=∃vs H',cQ! H' s'/\kB! vs/\Q vs H'
def SP(X:Cx)(ae:dp!)(D:zme)(f:Flow)(s':Shared):g!:= match f with
 | .next=>∃O' H',k3! O' H' s'/\D.nx O' H' | .brk=>∃O' H',k3! O' H' s'/\D.bk O' H' | .cont=>∃O' H',k3! O' H' s'/\D.ct O' H' | .ret u=>∃v O' H',k3! O' H' s'/\wQ v u/\D.rt v H'
def PE(X:Cx)(e:Expr)(t:TE):g!:= ∀(ae:List (Addr×Obj))(s:Shared)(O:St)(H:Hp)(Q:VK),N!->t O H Q->bR! (hr! e) (EP X ae O Q) s
def PT(X:Cx)(e:Expr)(t:TT):g!:= ∀(ae:List (Addr×Obj))(s:Shared)(O:St)(H:Hp)(Q:Bool->Hp->Prop),N!->t O H Q->bR! (qq! e az! (hr! e)) (TP X ae O Q) s
def PW(X:Cx)(e:Expr)(t:TT):g!:= ∀(whole:Sem Value)(ae:List (Addr×Obj))(s:Shared)(O:St)(H:Hp)(Q:Bool->Hp->Prop),N!->t O H Q->bR! (qq! e az! whole) (TP X ae O Q) s
theorem PW.pt(h:PW X e t):PT X e t:=h _
def PA(X:Cx)(es:aI!)(t:TA):g!:= ∀(pos:Pos)(ae:List (Addr×Obj))(s:Shared)(O:St)(H:Hp)(Q:List V->Hp->Prop),N!->t O H Q->bR! (spliced (hX! pos es)) (AP X ae O Q) s
def PS(X:Cx)(st:Stmt)(t:TS):g!:= ∀(ae:List (Addr×Obj))(s:Shared)(O:St)(H:Hp)(D:zme),N!->t D O H->bR! (exec st az!) (SP X ae D) s
def PSs(X:Cx)(st:nK!)(t:TS):g!:= ∀(ae:List (Addr×Obj))(s:Shared)(O:St)(H:Hp)(D:zme),N!->t D O H->bR! (execs st az!) (SP X ae D) s
theorem thn{Q Q':α->eL!} (h:fR! M A t Q E)(hQ:∀a s,Q a s->Q' a s):fR! M A t Q' E:=_aa h hQ λ_ _ x=>x
section
variable {X:Cx}
theorem bin(ha:W! a ta)(hb:W! b tb) {O:St} {R:V->V->bW!}(I:N!)(h:ta O H (hO! (tb O H1 λy H2=>R x y H2))) {f:d2!->d2!->Sem α} (hf:∀v u s2 x y H2,cQ! H2 s2->wQ x v->wQ y u->R x y H2->bR! (f v u) Q s2): bR! (hr! a) (λv s₁=>bR! (hr! b) (λu s₂=>bR! (f v u) Q ms!) jE!) s:=by exact thn (ha ae s O H _ I h) λv s1 ⟨x,H1,I1,r1,q1⟩=>(thn (hb ae s1 O H1 _ I1 q1) λu s2 ⟨y,H2,I2,r2,q2⟩=>(hf v u s2 x y H2 I2 r1 r2 q2))
def zwV(i:Nat):TE:=gS! (∃v,al! O bV!/\Q v H)
def tC(v:V):TE:=λ_ H Q=>Q v H
theorem zm5{pos:Pos}(hN:ga! x)(hv:sJ! x)(hd:cp! (x==cP!))(bz:cp! (x==o! "__classdict__")):W! m7! (zwV i):=by
 intro ae s O H Q I h;obtain⟨v,e,h⟩:=h;obtain⟨m,hn,hl⟩:=I.loc;obtain⟨u,r,l⟩:=hl i x v hN e hv;have fin:EP X ae O Q u s:=⟨v,H,I,r,h⟩;rcases l with⟨hk,hm⟩ | ⟨hk,c,hc,bQ⟩;·exact wpAny_Name (wpAny_loadName_local qo! hk hn hm fin) hd
 ·rcases hk with hk | hk;·exact wpAny_Name (wpAny_loadName_cell qo! hk hc bQ fin) hd
  ·exact wpAny_Name (wpAny_loadName_free qo! hk hc bQ fin bz) hd
theorem zmN: W! (mf! U! pos) (tC U!):=pk! (wpAny_Constant_int ⟨U!,H,iz!,cl! _,h⟩)
theorem zuf: W! (mf! lq! pos) (tC (.bl b)):=pk! (Constant_bool (br! (.bl b) H I h))
theorem zr0: W! (mf! ab! pos) (tC aA!):=pk! (Constant_none (br! aA! H I h))
theorem zmb: W! (g1! x j pos) (tC a1!):=pk! (_cK ⟨a1!,H,iz!,cl! _,h⟩)
def Gl(X:Cx)(x:Str):g!:=fY! x=b! .globalImplicit
theorem z4v{O:St} (I:N!)(hg:fj!)(hm:X.mg x=b! u)(h:Q u s) (hd:cp! (x==cP!)):l6! (hr! m7!) Q E s:= Calls.Name_function_global qo! hg (Calls.loadGlobal_global (by rw[I.ok.glob];exact I.mod.glob.keeps I.bk) hm h) hd
theorem z2g{E:b1!} {O:St} {pos:Pos} (I:N!)(hg:fj!)(hm:dS! x)(hv:k4! x u)(h:Q u s) (hn:kj! (mc! x))(hd:cp! (x==cP!)):l6! (hr! m7!) Q E s:=by
 obtain⟨mb,h1,h2⟩:=I.mod.blt;exact Calls.Name_function_global qo! hg (Calls.loadGlobal_builtin (by rw[I.ok.glob];exact I.mod.glob.keeps I.bk) hm (by rw[I.ok.blt];exact h1.keeps I.bk) (aJ! (h2 x hn) hv) h) hd
theorem z7u(hg:fj!)(hm:X.mg x=b! u)(r:wQ v u)(hd:cp! (x==cP!)):W! m7! (tC v):= pk! (z4v I hg hm ⟨v,H,I,r,h⟩ hd)
theorem zaf{pos:Pos}(hg:fj!)(hm:dS! x)(hv:k4! x u)(r:wQ v u)(hn:kj! (mc! x))(hd:cp! (x==cP!)):W! m7! (tC v):= pk! (z2g I hg hm hv ⟨v,H,I,r,h⟩ hn hd)
variable {a b:Expr}{ta tb:TE}{pos:Pos}
def PC(X:Cx)(op:CmpOp)(a b:Expr)(t:TE):g!:= ∀(ae:List (Addr×Obj))(s:Shared)(O:St)(H:Hp)(Q:VK),N!->t O H Q-> bR! (hr! a) (λv s₁=>bR! (hr! b) (λu s₂=>bR! (compareOp op v u) (EP X ae O Q) ms!) jE!) s
def tB(t:TE):TT:=li! O H (hO! (∃c,x=.bl c/\Q c H1))
theorem zvP(h:PC X op a b t)(h1:p1! b=q!:=by first | exact nobehind _ (by decide) (by decide) | rfl):PT X (.Compare a [op] [b] pos) (tB t):=by
 refine λae s O H Q I hw=>wpAny_isTrue_Compare1 (thn (h ae s O H _ I hw) λv s1 h1=>thn h1 λu s2 h2=>thn h2 λc s3 ⟨x,H1,I1,r1,q1⟩=>?_) h1;obtain⟨d,rfl,q⟩:=q1;cases r1;exact _aW ⟨H1,I1,q⟩
theorem zrj(h:W! e t)(he:autoParam (∀whole,qq! e az! whole=(do let v <- whole;standAt e.pos;od! [v] (truthy v))) aIr):PT X e (tB t):=by
 refine λae s O H Q I hw=>isTrue_plain (thn (h ae s O H _ I hw) λv s1 ⟨x,H1,I1,r1,q1⟩=>?_) (he _);obtain⟨d,rfl,q⟩:=q1;cases r1;exact _aW ⟨H1,I1,q⟩
variable {tA fT:TT}{kE:aI!}
def zvV(t u:TT):TT:=li! O H (λc H1=>aF! c (u O H1 Q) (Q q! H1))
def tOr(t u:TT):TT:=li! O H (λc H1=>aF! c (Q d! H1) (u O H1 Q))
def zwY(t:TT):TT:=li! O H (λc H1=>Q (!c) H1)
theorem zoo(ha:PT X a tA):PW X (hu! .And [a]) tA:=by
 refine λwh ae s O H Q I h=>isTrue_and (thn (ha ae s O H Q I h) λc s1 e=>?_);cases c with
 | true=>exact isTrue_and_nil e | false=>exact e
theorem zqw(ha:PT X a tA):PW X (hu! .Or [a]) tA:=by
 refine λwh ae s O H Q I h=>isTrue_or (thn (ha ae s O H Q I h) λc s1 e=>?_);cases c with
 | false=>exact isTrue_or_nil e | true=>exact e
theorem zqs(ha:PT X a tA)(hb:PW X (hu! .And (b::kE)) fT):PW X (hu! .And (a::b::kE)) (zvV tA fT):=by
 refine λwh ae s O H Q I h=>isTrue_and (thn (ha ae s O H _ I h) λc s1 ⟨H1,I1,q1⟩=>?_);cases c with
 | true=>exact hb wh ae s1 O H1 Q I1 q1 | false=>exact a3! H1 I1 q1
theorem zui(ha:PT X a tA)(hb:PW X (hu! .Or (b::kE)) fT):PW X (hu! .Or (a::b::kE)) (tOr tA fT):=by
 refine λwh ae s O H Q I h=>isTrue_or (thn (ha ae s O H _ I h) λc s1 ⟨H1,I1,q1⟩=>?_);cases c with
 | true=>exact a3! H1 I1 q1 | false=>exact hb wh ae s1 O H1 Q I1 q1
theorem zpY(ha:PT X a tA):PT X (.UnaryOp .Not a pos) (zwY tA):=iP! (isTrue_not (ha ae s O H (λc H1=>Q (!c) H1) I h))
def zt5(ta tb:TE):TE:=gS! (ta O H (hO! (∃c,x=.bl c/\aF! c (tb O H1 Q) (Q eN! H1))))
def ztZ(ta:TE):TE:=gS! (ta O H (hO! (∃c,x=.bl c/\Q (.bl (!c)) H1)))
theorem zqi(h:W! a t):W! (hu! op [a]) t:=λae s O H Q I hw=>BoolOp_one (h ae s O H Q I hw)
theorem zpt(ha:W! a ta)(hb:W! (hu! .And (b::kE)) tb):W! (hu! .And (a::b::kE)) (zt5 ta tb):=by
 refine iP! (BoolOp_and (thn (ha ae s O H _ I h) λv s1 ⟨x,H1,I1,r1,q1⟩=>?_));obtain⟨c,rfl,q1⟩:=q1;cases r1;refine _aW ?_;cases c with
 | true=>exact hb ae s1 O H1 Q I1 q1 | false=>exact br! eN! H1 I1 q1
theorem zru(ha:W! a ta):W! (.UnaryOp .Not a pos) (ztZ ta):=by
 refine iP! (UnaryOp_ (thn (ha ae s O H _ I h) λv s1 ⟨x,H1,I1,r1,q1⟩=>?_));obtain⟨c,rfl,q1⟩:=q1;cases r1;exact not_of (_aW (br! (.bl (!c)) H1 I1 q1))
def tIf(t:TT)(ta tb:TE):TE:=li! O H (λc H1=>aF! c (ta O H1 Q) (tb O H1 Q))
theorem zkp(hc:PT X c tA)(ha:W! a ta)(hb:W! b tb):W! (.IfExp c a b pos) (tIf tA ta tb):=by
 refine iP! (wpAny_IfExp (thn (hc ae s O H _ I h) λd s1 ⟨H1,I1,q1⟩=>?_));cases d with
 | true=>exact ha ae s1 O H1 Q I1 q1 | false=>exact hb ae s1 O H1 Q I1 q1
end
def SqL(K:W.Frag)(H:Hp)(a:Addr)(xs:aG!):g!:= Rd H a bx!\/ ∃(o:Obj)(af:Array Value)(n:Nat),o0!=b! o/\gp!=dk!/\o.dict=a!/\ih!=.seq af n/\af.size<=aY!/\xt xs pg!
def SqT(K:W.Frag)(H:Hp)(a:Addr)(xs:aG!):g!:= Rd H a af!\/ ∃(o:Obj)(af:Array Value)(n:Nat),o0!=b! o/\gp!=dR!/\ih!=.seq af n/\af.size<=aY!/\xt xs pg!
noncomputable def zx3:d2!->bq! V
 | .none=>b! aA! | .bool b=>b! (.bl b) | .int i _=>cq! | .str x _=>b! a1! | .bytes b _=>b! (.byt b) | .float b _=>b! (.flt b) | .ref a=>b! ag! | .type n=>b! (.ty n) | _=>none
theorem wQ.abs(r:wQ x u):zx3 u=fd!:=by cases x with
 | non=>cases r;rfl | bl _=>cases r;rfl | int _=>obtain⟨t,rfl⟩:=r;rfl | str _=>obtain⟨t,rfl⟩:=r;rfl | byt _=>obtain⟨t,rfl⟩:=r;rfl | flt _=>obtain⟨t,rfl⟩:=r;rfl | ref _=>cases r;rfl | ty _=>cases r;rfl
theorem wQ.inj(r:wQ x u)(q:wQ y u):x=y:=_p (r.abs.symm.trans q.abs)
theorem xt.inj:∀{xs ys:List V}{us:List Value},jo!->kB! ys->xs=ys
 | _,_,_,.nil,.nil=>rfl | _,_,_,.cons r t,.cons r' t'=>by rw[r.inj r',xt.inj t t']
section
variable {X:Cx}{ae:dp!}{O:St}{H:Hp}{s:Shared}{a:Addr}{xs ys:aG!}
theorem Inv.list(I:N!)(h:SqL X.K H a xs):∃af:List Value,xt xs af/\PlainL L! a fE!/\w!<=aY!:=by
 rcases h with h | ⟨o,af,n,hk,hc,hd,hs,hz,r⟩
 ·obtain⟨z,af,n,r,e⟩:=h.ok eZ!;exact ck! af r ⟨_,n,e,rfl,rfl,rfl⟩ z
 ·refine ck! pg! r ⟨o,n,I.kIn a o hk,hc,hd,by exact hs⟩ ?_;have e:=r.length;simp only[_aZ]at e;lia
theorem Inv.tuple(I:N!)(h:SqT X.K H a xs):∃af:List Value,xt xs af/\IsTup L! a fE!/\w!<=aY!:=by
 rcases h with h | ⟨o,af,n,hk,hc,hs,hz,r⟩
 ·obtain⟨z,af,r,p⟩:=h.ok eZ!;exact ck! af r p.tup z
 ·refine ck! pg! r ⟨o,I.kIn a o hk,hc,n,by exact hs⟩ ?_;have e:=r.length;simp only[_aZ]at e;lia
theorem Inv.list_inj(I:N!)(h:SqL X.K H a xs)(h':SqL X.K H a ys):xs=ys:=by
 obtain⟨af,r,⟨o,n,e,_,_,d⟩,_⟩:=I.list h;obtain⟨aP,r',⟨o',n',e',_,_,d'⟩,_⟩:=I.list h';rw[e]at e';cases e';rw[d]at d';injection d' with d1 _;have:af=aP:=by exact _au Array.toList d1
 subst this;exact r.inj r'
theorem Inv.tuple_inj(I:N!)(h:SqT X.K H a xs)(h':SqT X.K H a ys):xs=ys:=by
 obtain⟨af,r,⟨o,e,_,n,d⟩,_⟩:=lG! h;obtain⟨aP,r',⟨o',e',_,n',d'⟩,_⟩:=lG! h';rw[e]at e';cases e';rw[d]at d';injection d' with d1 _;have:af=aP:=by exact _au Array.toList d1
 subst this;exact r.inj r'
end
noncomputable abbrev Cx.wish(X:Cx)(E:b1!):Cx:={X with xe:=E}
noncomputable abbrev Cx.nox(X:Cx):Cx:=qr! i4!
theorem Cx.Ok.wish{X:Cx}(ok:X.Ok)(E:b1!):(qr! E).Ok:= ⟨ok.mod,ok.kind,ok.glob,ok.blt,ok.above,ok.inj,ok.has,ok.cab,ok.hd,ok.frames,ok.stk,ok.exf,ok.bs,ok.bsz,ok.noex,ok.exfs,ok.funs,ok.frf⟩
theorem Cx.Ok.unwish{X:Cx} (ok:(qr! E).Ok):X.Ok:= ⟨ok.mod,ok.kind,ok.glob,ok.blt,ok.above,ok.inj,ok.has,ok.cab,ok.hd,ok.frames,ok.stk,ok.exf,ok.bs,ok.bsz,ok.noex,ok.exfs,ok.funs,ok.frf⟩
section
variable {X:Cx}{ae:dp!}{O:St}{H:Hp}{s:Shared}{E:b1!}
theorem Inv.wish(I:N!)(E:b1!):Inv (qr! E) ae O H s:=⟨I.ok.wish E,ka!,jD!,oa!,mr!,ob!,iO!,lF!,I.pin,eZ!,lE!⟩
theorem Inv.unwish(I:Inv (qr! E) ae O H s):N!:=⟨I.ok.unwish,ka!,jD!,oa!,mr!,ob!,iO!,lF!,I.pin,eZ!,lE!⟩
theorem SP.unwish{D:zme}{f:Flow}{s':Shared}(h:SP (qr! E) ae D f s'):SP X ae D f s':=by cases f with
 | next=>obtain⟨O',H',I,q⟩:=h;exact ck! O' H' I.unwish q | brk=>obtain⟨O',H',I,q⟩:=h;exact ck! O' H' I.unwish q | cont=>obtain⟨O',H',I,q⟩:=h;exact ck! O' H' I.unwish q | ret u=>obtain⟨v,O',H',I,r,q⟩:=h;exact⟨v,O',H',I.unwish,r,q⟩
theorem PSs.nox{st:nK!} (h:PSs X.nox st t):PSs X st t:=λae s O H D I hw=> le! (h ae s O H D (I.wish _) hw) (λ_ _ q=>q.unwish) (mt! z)
end
section
variable {X:Cx}{st:Stmt}{kE:nK!}{t u:TS}{e:Expr}{te:TE}{pos:Pos}
def ztr:TS:=lH! (D.nx O H)
def zvt(t u:TS):TS:=lH! (t {D with nx:=u D} O H)
theorem znb:PSs X [] ztr:=λ_ _ O H _ I h=>_cv ⟨O,H,I,h⟩
theorem zjC(h1:PS X st t)(h2:PSs X kE u):PSs X (st::kE) (zvt t u):=by
 refine nn! (wpAny_execs_cons (thn (h1 ae s O H {D with nx:=u D} I h) λf s1 q=>?_));cases f with
 | next=>
  obtain⟨O',H',I',q⟩:=q;exact h2 ae s1 O' H' D I' q | ret v=>exact q | brk=>exact q | cont=>exact q
theorem zna(h1:PS X st t):PSs X [st] t:=by
 refine nn! (wpAny_execs_cons (thn (h1 ae s O H D I h) λf s1 q=>?_));cases f with
 | next=>exact _cv q | ret v=>exact q | brk=>exact q | cont=>exact q
theorem Inv.quiet{O:St} (I:N!):interactive az!=q!:=by simp[interactive,I.ok.kind]
def zu6(te:TE):TS:=lH! (te O H λ_ H1=>D.nx O H1)
theorem zoj(he:W! e te)(hs:B! (mG! e a! oe!=mQ!)):PS X (.Expr e pos) (zu6 te):=nn! (wpAny_Expr_any (thn (he ae s O H _ I h) λv s1 ⟨x,H1,I1,r1,q1⟩=>ck! O H1 I1 q1) I.quiet hs)
def zww(te:TE):TS:=lH! (te O H D.rt)
theorem zq1(he:W! e te):PS X (.Return l! pos) (zww te):=nn! (wpAny_Return_some (thn (he ae s O H _ I h) λv s1 ⟨x,H1,I1,r1,q1⟩=>⟨x,O,H1,I1,r1,q1⟩))
def zx0(c:TT)(t u:TS):TS:=lH! (c O H λb H1=>aF! b (t D O H1) (u D O H1))
theorem zuU(hc:PT X c tc)(ha:PSs X a t)(hb:PSs X b u):PS X (.If c a b pos) (zx0 tc t u):=by
 refine nn! (wpAny_If (thn (hc ae s O H _ I h) λd s1 ⟨H1,I1,q1⟩=>?_));cases d with
 | true=>exact ha ae s1 O H1 D I1 q1 | false=>exact hb ae s1 O H1 D I1 q1
def zpM:TS:=fH! nm!
theorem zjM:PS X st zpM:=λ_ _ _ _ _ _ h=>h.elim
end
abbrev TG:=V->St->Hp->(St->bW!)->g!
abbrev TGs:=aG!->St->Hp->(St->bW!)->g!
def PG(X:Cx)(bA:Expr)(t:TG):g!:= ∀(ae:List (Addr×Obj))(s:Shared)(O:St)(H:Hp)(v:V)(u:Value)(Q:St->Hp->Prop),N!->wQ v u->t v O H Q-> bR! (assign bA az! u) (λ_ s'=>∃O' H',k3! O' H' s'/\Q O' H') s
def PGs(X:Cx)(ts:aI!)(t:TGs):g!:= ∀(ae:List (Addr×Obj))(s:Shared)(O:St)(H:Hp)(vs:List V)(us:List Value)(Q:St->Hp->Prop),N!->kB! vs->t vs O H Q-> bR! (assignInOrder ((oO! ts).map (·.2)) us) (λ_ s'=>∃O' H',k3! O' H' s'/\Q O' H') s
abbrev zvK:=V->V->V->Hp->bW!->g!
def zvL(X:Cx)(t:zvK):g!:= ∀(ae:List (Addr×Obj))(s:Shared)(O:St)(H:Hp)(o i v:V)(ov iv u:Value)(Q:Hp->Prop),N!->wQ o ov->wQ i iv->wQ v u->t o i v H Q-> bR! (setItem ov iv u) (λ_ s'=>∃H',cQ! H' s'/\Q H') s
section
variable {X:Cx}{pos:Pos}
noncomputable def zft(i:Nat):TG:=λv O H Q=>Q (lb! i) H
theorem zK(hN:X.N.Nodup)(hi:ga! x)(hx:gZ! x)(hf:g0! (f8! x\/e7! x)):PG X m7! (zft i):=λae s O H v u Q I r h=>_c5 (z3q I hN hi hx r (λs' I'=>ck! _ H I' h) hf)
noncomputable def zvx:TGs:=λvs O H Q=>vs=[]/\Q O H
def zo9(t:TG)(u:TGs):TGs:=λvs O H Q=>∃v r,vs=v::r/\t v O H λO' H'=>u r O' H' Q
theorem zdN:PGs X [] zvx:=by
 intro ae s O H vs us Q I r h;obtain⟨e,h⟩:=h;exact assignInOrder_nil ⟨O,H,I,h⟩
theorem z0t(h1:PG X e t)(h2:PGs X es u) (hs:B! ((oO! (e::es)).map (·.2)=assign e az!::(oO! es).map (·.2))):PGs X (e::es) (zo9 t u):=by
 intro ae s O H vs us Q I r h;obtain⟨v,vr,e1,h⟩:=h;subst e1;cases r with | cons r rr=>
  rw[hs];exact _cM (thn (h1 ae s O H _ _ _ I r h) λ_ s1 ⟨O1,H1,I1,q1⟩=>(h2 ae s1 O1 H1 _ _ Q I1 rr q1))
def zvN(K:W.Frag)(n:Nat)(t:TGs):TG:=λv O H Q=>∃a xs,v=ag!/\SqT K H a xs/\w!=n/\t xs O H Q
theorem ziv{k:Nat} (hc:b0!)(h:PGs X es t) (hn:B! (t! (oO! es)=n))(dC:B! ((oO! es).findIdx? (·.1)=a!)):PG X (hP! es k pos) (zvN X.K n t):=by
 intro ae s O H v u Q I r hw;obtain⟨a,xs,e1,hq,hl,hw⟩:=hw;subst e1;cases r;obtain⟨af,rv,ht,hz⟩:=nI!;exact assign_Tuple_tuple ht! ht (by simp[hn,<- hl,rv.length]) dC λh' hx=>(h ae _ O H xs _ Q (I.kept (t':=s.toks) (gQ! (hx b o (_E df!) e))) (by exact rv) hw)
noncomputable def zwS(to ti:TE)(t:zvK):TG:=λv O H Q=>to O H λo H1=>ti O H1 λi H2=>t o i v H2 λH3=>Q O H3
theorem zpn(ho:W! o to)(hi:W! i ti)(hs:zvL X t) (ha:∀v,assign (mK! o i) az! v=(do
   let ov <- od! [v] gI! let iv <- od! [v,ov] (hr! i)
   standAt pos
   od! [v,ov,iv] (setItem ov iv v)
   release [v,ov,iv] []):=by intro _;rfl):PG X (mK! o i) (zwS to ti t):=by
 intro ae s O H v u Q I r h;exact _a (_aT (thn (ho ae s O H _ I h) λov s1 ⟨x,H1,I1,r1,q1⟩=>(_a (_aT (thn (hi ae s1 O H1 _ I1 q1) λiv s2 ⟨y,H2,I2,r2,q2⟩=>(_a (_cl (_a (_aT (thn (hs ae s2 O H2 x y v ov iv u _ I2 r1 r2 r q2) λ_ s3 ⟨H3,I3,q3⟩=>(wpAny_release ⟨O,H3,I3,q3⟩)))))))))))
def zt4(te:TE)(g:TG):TS:=lH! (te O H (hO! (g x O H1 D.nx)))
theorem zm8(he:W! e te)(hg:PG X tg g)(hs:B! (r0! [tg] e az!=mQ!))(hw:B! (r3! [tg] e=d3! a!)) (h1:B! ((oO! [tg]).map (·.2)=[assign tg az!])):PS X (.Assign [tg] e pos) (zt4 te g):=by
 refine nn! (wpAny_Assign_stores (thn (he ae s O H _ I h) λv s1 ⟨x,H1,I1,r1,q1⟩=>?_) hs hw);rw[h1];exact thn (hg ae s1 O H1 x v _ I1 r1 q1) λ_ s2 q=>q
theorem zrN(hN:X.N.Nodup)(hi:ga! x)(hx:gZ! x)(he:W! e te)(hs:B! (mG! e (b! (fq! cA)) oe!=mQ!))(hf:g0! (f8! x\/e7! x)): PS X (.Assign [fq! cA] e pos) (zt4 te (zft i)):=by exact nn! (wpAny_Assign_Name (thn (he ae s O H _ I h) λv s1 ⟨y,H1,I1,r1,q1⟩=>(z3q I1 hN hi hx r1 (λs2 I2=>ck! _ H1 I2 q1) hf)) hs)
def zw8(i j:Nat)(ta:TA):TS:=lH! (ta O H λvs H1=>∃v w,vs=[v,w]/\D.nx (g8! (lb! i) j w) H1)
theorem zqE(hc:b0!) (hN:X.N.Nodup) (hi:ga! x) (hj:G! X.N j y) (aJ:i≠j) (hx:e7! x) (hy:e7! y) (ha:PA X [a,b] ta) (hw:r3! [jc! [fq! px,gj!] pt] (hP! [a,b] k2 dX)=d3! (b! [x,y])) (hs:B! (r0! [jc! [fq! px,gj!] pt] (hP! [a,b] k2 dX) az!=mQ!)): PS X (.Assign [jc! [fq! px,gj!] pt] (hP! [a,b] k2 dX) pos) (zw8 i j ta):=by
 refine nn! (_a (_cl ?_));refine _a (_m (_a (Tuple_ (thn (ha _ ae s O H _ I h) λus s1 ⟨vs,H1,I1,r1,q1⟩=>?_))));obtain⟨v,w,e1,q1⟩:=q1;subst e1;obtain⟨u1,u2,rfl,rv,eE⟩:∃u1 u2,us=[u1,u2]/\wQ v u1/\wQ w u2:=by cases r1 with | cons p q=> cases q with | cons p' q'=>
    cases q';exact g6! _ _ p p'
 refine _aI ?_ (by show 2<=aY!;decide);have I2:cQ! H1 ({s1 with heap:=qs! ({cls:=dR!,data:=o3! [u1,u2]})}):=of! (mj! _ e);rw[hw];refine _a (_m ?_);refine _a (_cN (_a (unpackItems_tuple (items:=#[u1,u2]) ht! (IsTup.new qt! _) λh' hx'=>(_a (_cM (wpAny_bindName (z3q (I2.kept (h':=h') (t':=s1.toks) (gQ! (hx' b o (_E df!) e))) hN hj (C! hy) eE (λs2 I4=>?_) (T! hy))))))));refine _cM (wpAny_bindName (z3q I4 hN hi (C! hx) rv (λs3 I5=>assignInOrder_nil (_m ?_)) (T! hx)));rw[List.set_comm _ _ (_bT aJ)]at I5;exact ck! _ H1 I5 q1
end
section
variable {X:Cx}{pos:Pos}
def zq7(c:TT)(tb:TS):TS:=lH! (∃W:Nat->St->Hp->Prop,(∃m,W m O H)/\∀m O H,W m O H-> c O H λb H1=>aF! b (∃N:St->Hp->Prop,(∀O' H',N O' H'->∃m',m'<m/\W m' O' H')/\tb {D with nx:=N,ct:=N,bk:=D.nx} O H1) (D.nx O H1))
theorem zlc(hp:PassesOwn (oX! X.w) X.A az! X.xe)(hc:PT X c tc)(hb:PSs X dM! tb):PS X (.While c dM! [] pos) (zq7 tc tb):=by
 intro ae s O H D I h;obtain⟨W,⟨m0,w0⟩,turn⟩:=h;refine wpAny_While (codeAny_whileLoop (λn s'=>∃O' H',k3! O' H' s'/\W n O' H') ?_ m0 ⟨O,H,I,w0⟩);rintro n s1 ⟨O1,H1,I1,w1⟩;refine _a6 hp (thn (hc ae s1 O1 H1 _ I1 (turn n O1 H1 w1)) λb s2 ⟨H2,I2,q2⟩=>?_);cases b with
 | true=>
  obtain⟨N,hN,q2⟩:=q2;refine _a6 hp (thn (hb ae s2 O1 H2 _ I2 q2) λf s3 q3=>?_);cases f with
  | next=>
   obtain⟨O3,H3,I3,n3⟩:=q3;obtain⟨m',hm,w3⟩:=hN O3 H3 n3;exact⟨m',hm,O3,H3,I3,w3⟩ | cont=>
   obtain⟨O3,H3,I3,n3⟩:=q3;obtain⟨m',hm,w3⟩:=hN O3 H3 n3;exact⟨m',hm,O3,H3,I3,w3⟩ | brk=>exact q3 | ret v=>exact q3
 | false=> exact _cv ⟨O1,H2,I2,q2⟩
end
structure It where
 go:Nat->bW!
 yld:Nat->Hp->V->bW!
 stop:Nat->bW!
def zcG(X:Cx)(ae:dp!)(H:Hp)(b:Addr):g!:= fk!/\i2! b/\b∉jC!/\(b∈lD!\/X.s₀.heap.objs.size<=b)/\(∀x c,gX! x c->c≠b)/\∀p∈iN!++ae,p.1≠b
theorem Inv.fpOk{O:St} {b:Addr}(I:N!)(hb:at!<=b)(hn:gf! b):zcG X ae H' b:=by
 refine⟨hn,_cE (_j I.lt hb),I.nofs hb,T! (_G I.sz hb),λx c e z=>?_,λp hp z=>(k9! (_j (_s (lr! hp).1) (by rw[z];exact hb)) _)⟩
 ·obtain⟨v,q⟩:=mq! x c e;exact k9! (_j q.lt (by rw[z];exact hb)) _
structure zkj(P:Program)(w:World)(K:W.Frag)(tg:Expr)(J:It)(fp:ao!)(it:Addr)(tn:Nat->Heap->g!):g! where
 mem:it∈fp
 obj:∀i h,tn i h->∀b∈fp,∃o,cK! b/\∀v,ih!≠.cell v
 keep:∀i h h',tn i h->(∀b∈fp,∀o,cK! b->dK! b)->tn i h'
 item:∀(X:Cx),aV!=P->X.w=w->X.K=K->b0!->∀(i:Nat)(ae:List (Addr×Obj))(s:Shared)(O:St)(H:Hp)(E:Value->Shared->Prop),N!->(∀b∈fp,zcG X ae H b)->tn i L!->J.go i H-> gu! P w X.A (pl! kE!) (λr s1=>∃u,r=b! u/\ gu! P w X.A (letOwnedTupleGo tg kE! u) (λ_ s2=>∃x H',cQ! H' s2/\wQ x u/\J.yld i H x H'/\tn (i+1) s2.heap/\∀b∈fp,gf! b) E s1) E s
 done:∀(X:Cx),aV!=P->X.w=w->X.K=K->b0!->∀(i:Nat)(ae:List (Addr×Obj))(s:Shared)(O:St)(H:Hp)(E:Value->Shared->Prop),N!->(∀b∈fp,zcG X ae H b)->tn i L!->J.stop i H-> gu! P w X.A (pl! kE!) (λr s1=>r=a!/\l4! s1) E s
 self:∀(A:Around)(i:Nat)(s:Shared)(Q:Value->Shared->Prop)(E:Value->Shared->Prop),tn i L!->Q kE! s->gu! P w A (pyIter kE!) Q E s
abbrev TI:=St->Hp->(It->bW!)->g!
def PIE(X:Cx)(ae:dp!)(O:St)(tg:Expr)(R:It->bW!)(eI:Value)(s2:Shared):g!:= ∃(it:Addr)(fp:List Addr)(tn:Nat->Heap->Prop)(J:It)(H':Hp),eI=kE!/\cQ! H' s2/\zkj aV! X.w X.K tg J fp it tn/\tn 0 s2.heap/\(∀b∈fp,zcG X ae H' b)/\R J H'
def PI(X:Cx)(tg iter:Expr)(wi:TI):g!:= ∀(ae:List (Addr×Obj))(s:Shared)(O:St)(H:Hp)(R:It->Hp->Prop),N!->wi O H R-> bR! (hr! ii!) (λv s1=>bR! (pyIter v) (PIE X ae O tg R) s1) s
theorem zjL            (ho:dx! it)(hc:gp!=ar! n)(hd:ih!=eY! vs) (hn:qu! [gO!,iJ!,"dict_itemiterator","dict_reverseitemiterator","odict_iterator","itertools.zip_longest","itertools.pairwise"] n=q!)(hQ:Q () s):fR! M A (letOwnedTupleGo tg kE! u) Q E:=by cases tg<;>first
    | exact _m hQ | (cases u<;>first
        | exact _m hQ
        | (refine _a (wpAny_load ho ?_);rw[hc,hd];show fR! M A (aF! (qu! [gO!,iJ!,"dict_itemiterator","dict_reverseitemiterator","odict_iterator","itertools.zip_longest","itertools.pairwise"] n&&vs[0]? == b! (rawInt _)) _ _) Q E;rw[_o (by intro h;rw[hn]at h;cases h)];exact _m hQ))
noncomputable def Itl(K:W.Frag)(a:Addr):It:= ⟨λi H=>∃xs x,SqL K H a xs/\al! xs x,λi H x H'=>H'=H/\∀xs,SqL K H a xs->al! xs x,λi H=>∃xs,SqL K H a xs/\w!<=i⟩
noncomputable def Itt(K:W.Frag)(a:Addr):It:= ⟨λi H=>∃xs x,SqT K H a xs/\al! xs x,λi H x H'=>H'=H/\∀xs,SqT K H a xs->al! xs x,λi H=>∃xs,SqT K H a xs/\w!<=i⟩
noncomputable def Itr(lo:Int)(n:Nat):It:=⟨λi _=>i<n,λi H x H'=>H'=H/\x=c! (lo+i),λi _=>n<=i⟩
theorem zhZ{K:W.Frag} (a it:Addr):zkj P w K tg (Itl K a) [it] it (λi h=>h.IsListIter it a i) where
 mem:=by simp
 obj:=λi h st b hb=>by
  have e:b=it:=by simpa using hb
  subst e;obtain⟨o,e,c,d⟩:=st;exact cB! e (λv z=>by rw[d]at z;cases z)
 keep:=λi h h' st k=>st.at λo e=>k it (by simp) o e;item:=by
  intro X hP hw hK hc i ae s O H E I hf st hg;subst hP hw hK;obtain⟨xs,x,hq,hx⟩:=hg;obtain⟨af,rv,p,hz⟩:=mh!;obtain⟨u,hu,ru⟩:=rv.get hx;obtain⟨f0,f1,f2,f3,f4,f5⟩:=hf it (by simp);refine wpAny_pyNext_list_item st p.isList (by simpa using hu) λh' ay sb=>?_;obtain⟨o,e,c,d⟩:=id ay;exact aH! u (zjL e c d (by decide) ⟨x,H,(I.turned (t':=s.toks) (kR! (aJ! (sb.2 b hb) e)) f0 f1 f3 f4 f5),ru,g4! (λys hy=>by rw[I.list_inj hy hq];exact hx),ay,cv! (hf b hb).1⟩)
 done:=by
  intro X hP hw hK hc i ae s O H E I hf st hg;subst hP hw hK;obtain⟨xs,hq,hx⟩:=hg;obtain⟨af,rv,p,hz⟩:=mh!;obtain⟨f0,f1,f2,f3,f4,f5⟩:=hf it (by simp);have hl:=rv.length;exact wpAny_pyNext_list_end ht! st p.isList (by simp;lia) λh' eb=>g4! (I.turned (kR! (eb b o hb e)) f0 f1 f3 f4 f5)
 self:=λ_ _ _ _ _ st h=>wpAny_pyIter_listiter st h
theorem zg7{K:W.Frag} (a it:Addr):zkj P w K tg (Itt K a) [it] it (λi h=>h.IsTupleIter it a i) where
 mem:=by simp
 obj:=λi h st b hb=>by
  have e:b=it:=by simpa using hb
  subst e;obtain⟨o,e,c,d⟩:=st;exact cB! e (λv z=>by rw[d]at z;cases z)
 keep:=λi h h' st k=>st.at λo e=>k it (by simp) o e;item:=by
  intro X hP hw hK hc i ae s O H E I hf st hg;subst hP hw hK;obtain⟨xs,x,hq,hx⟩:=hg;obtain⟨af,rv,p,hz⟩:=nI!;obtain⟨u,hu,ru⟩:=rv.get hx;obtain⟨f0,f1,f2,f3,f4,f5⟩:=hf it (by simp);refine wpAny_pyNext_tuple_item st (p) (by simpa using hu) λh' ay sb=>?_;obtain⟨o,e,c,d⟩:=id ay;exact aH! u (zjL e c d (by decide) ⟨x,H,(I.turned (t':=s.toks) (kR! (aJ! (sb.2 b hb) e)) f0 f1 f3 f4 f5),ru,g4! (λys hy=>by rw[I.tuple_inj hy hq];exact hx),ay,cv! (hf b hb).1⟩)
 done:=by
  intro X hP hw hK hc i ae s O H E I hf st hg;subst hP hw hK;obtain⟨xs,hq,hx⟩:=hg;obtain⟨af,rv,p,hz⟩:=nI!;obtain⟨f0,f1,f2,f3,f4,f5⟩:=hf it (by simp);have hl:=rv.length;exact wpAny_pyNext_tuple_end ht! st (p) (by simp;lia) λh' eb=>g4! (I.turned (kR! (eb b o hb e)) f0 f1 f3 f4 f5)
 self:=λ_ _ _ _ _ st h=>wpAny_pyIter_tupleiter st h
theorem zfI{K:W.Frag} (it:Addr) (lo:Int) (n:Nat):zkj P w K tg (Itr lo n) [it] it (λi h=>IsRangeIter h it (lo+eM! i*1) (j! n-eM! i) 1) where
 mem:=by simp
 obj:=λi h st b hb=>by
  have e:b=it:=by simpa using hb
  subst e;exact bQ! st (λv z=>by cases z)
 keep:=λi h h' st k=>k it (by simp) _ st;item:=by
  intro X hP hw hK hc i ae s O H E I hf st hg;subst hP hw hK;obtain⟨f0,f1,f2,f3,f4,f5⟩:=hf it (by simp);refine (Walks.range (prog:=X.prog) (w:=X.w) ht! it lo 1 n).item i s _ _ hg st λv h' tk hv ay kk=>?_;obtain⟨t,rfl⟩:=hv;have I1:l4! ({s with heap:=h',toks:=tk}):=I.turned (kR! (kk b o (by simpa using hb) e)) f0 f1 f3 f4 f5;refine aH! _ (zjL ay rfl rfl (by decide) ⟨c! (lo+i),H,I1,as! t ?_,cl! rfl,ay,cv! (hf b hb).1⟩);rw[Int.mul_one]
 done:=by
  intro X hP hw hK hc i ae s O H E I hf st hg;obtain⟨f0,f1,f2,f3,f4,f5⟩:=hf it (by simp);exact wpAny_pyNext_range_end ht! st (by have:n<=i:=hg;lia) λh' eb=>g4! (I.turned (kR! (eb b o hb e)) f0 f1 f3 f4 f5)
 self:=λ_ _ _ _ _ st h=>wpAny_pyIter_rangeiter st h
section
variable {X:Cx}{tg:Expr}
theorem zec{ae:dp!}{O:St}{H:Hp}{s:Shared}{R:It->bW!}{E:b1!}{lo hi:Int}{t u v:Tok}{tk:Nat}(I:N!)(h1:-(2 ^ 62)<=lo)(h2:lo<2 ^ 62)(h3:-(2 ^ 62)<=hi)(h4:hi<2 ^ 62) (q:R (Itr lo (hi-lo).toNat) H):l6! (pyIter f4!) (PIE X ae O tg R) E ({s with heap:=ij! ({cls:=mb!,data:=eY! #[ci! lo,bE! hi u,bE! 1 v]}),toks:=tk}):=by
 refine wpAny_pyIter_range (IsRange.new ..) (small_one h1 h2 h3 h4) ?_;have I1:l4! ({s with heap:=ij! ({cls:=mb!,data:=eY! #[ci! lo,bE! hi u,bE! 1 v]}),toks:=tk}):=mu! (mj! _ e);refine⟨eo! (ij! ({cls:=mb!,data:=eY! #[ci! lo,bE! hi u,bE! 1 v]})),[eo! (ij! ({cls:=mb!,data:=eY! #[ci! lo,bE! hi u,bE! 1 v]}))],_,_,H,rfl, of! (mj! _ e),zfI _ lo (hi-lo).toNat,?_,cv! ?_,q⟩
 ·have e1:lo+eM! 0*1=lo:=by simp
  rw[e1,(show (fI! (hi-lo):Nat)-eM! 0=Builtin.Range.rangeSize lo hi 1 from by rw[rangeSize_one];split<;>lia)];exact hh!
 ·have e:b=eo! (ij! ({cls:=mb!,data:=eY! #[ci! lo,bE! hi u,bE! 1 v]})):=by simpa using hb
  subst e;exact r1! am! am!
def zsL(ta:TA):TI:=λO H R=>ta O H λvs H1=>∃j:Int,vs=[c! j]/\-(2 ^ 62)<=j/\j<2 ^ 62/\R (Itr 0 kS!) H1
def ztE(ta:TA):TI:=λO H R=>ta O H λvs H1=>∃i j:Int,vs=cU! i j/\(-(2 ^ 62)<=i/\i<2 ^ 62/\-(2 ^ 62)<=j/\j<2 ^ 62)/\R (Itr i (j-i).toNat) H1
theorem zj2(hg:o8!)(hm:dS! fD!)(ha:PA X [a] ta)(hs:B! (aw! [a]=[d6! a])):PI X tg (dw! fD! p [a]) (zsL ta):=by
 refine λae s O H R I h=>Call_ (z2g I hg hm boot_range (_ab (thn (ha pos ae s O H _ I h) λus s1 ⟨vs,H1,I1,r1,q1⟩=>?_) hs rfl));obtain⟨j,e,q1,q2,q⟩:=q1;subst e;cases r1 with | cons r rr=>
  cases rr;obtain⟨t,rfl⟩:=r;exact call_range_1 (zec I1 (by lia) (by lia) q1 q2 (by simpa using q))
theorem zhs{p pos:Pos}(hg:o8!)(hm:dS! fD!)(ha:PA X [a,b] ta)(hs:B! (aw! [a,b]=[d6! a,d6! b]))(bR:B! (aw! [b]=[d6! b])): PI X tg (dw! fD! p [a,b]) (ztE ta):=by
 refine λae s O H R I h=>Call_ (z2g I hg hm boot_range (_ab (thn (ha pos ae s O H _ I h) λus s1 ⟨vs,H1,I1,r1,q1⟩=>?_) (by rw[hs,bR]) (by rw[bR];rfl)));obtain⟨i,j,e,⟨q1,q2,q3,q4⟩,q⟩:=q1;subst e;cases r1 with | cons r rr=> cases rr with | cons r' rr=>
   cases rr;obtain⟨t,rfl⟩:=r;obtain⟨t',rfl⟩:=r';exact call_range_2 (zec I1 q1 q2 q3 q4 q)
def zwP(wi:TI)(g:TG)(tb:TS):TS:=lH! (wi O H λJ H1=>∃W:Nat->Nat->St->Hp->Prop,(∃m,W 0 m O H1)/\∀i m O H,W i m O H-> (J.stop i H/\D.nx O H)\/(J.go i H/\∃N:St->Hp->Prop,(∀O' H',N O' H'->∃m',m'<m/\W (i+1) m' O' H')/\∀x H',J.yld i H x H'->g x O H' λO2 H2=>tb {D with nx:=N,ct:=N,bk:=D.nx} O2 H2))
noncomputable def zcn(fp:ao!)(h:Heap):dp!:=fp.filterMap λb=>(qd! b).map λo=>(b,o)
theorem kN(hb:b∈fp)(e:cK! b):(b,o)∈zcn fp h:=_cO.mpr ⟨b,hb,by rw[e];rfl⟩
theorem zhH(hp:p∈zcn fp h):p.1∈fp/\eK! p.1 p.2:=by
 obtain⟨b,hb,e⟩:=_cO.mp hp;cases q:qd! b with
 | none=>rw[q]at e;cases e | some o=>
  rw[q]at e;have e' := _p e;subst e';exact as! hb q
theorem Inv.pinned{O:St} (I:N!)(hf:∀b∈fp,zcG X ae H b)(ho:∀b∈fp,∃o,dx! b/\∀v,ih!≠.cell v):Inv X (ae++zcn fp L!) O H s:= I.pins_of (bs! (m1! hp (λz=>lr! (_P _ z)) (λz=>by
  obtain⟨hb,e⟩:=zhH z;obtain⟨f0,f1,f2,_⟩:=hf p.1 hb;obtain⟨o,e',d⟩:=ho p.1 hb;rw[e]at e';cases e';exact⟨e,f0,f1,f2,d⟩)))
theorem Inv.unpinned{O:St} (I:Inv X (ae++pl) O H s):N!:=I.pins_of (bs! (lr! (_P _ (_a9 _ hp))))
theorem zqG(hp:PassesOwn (oX! X.w) X.A az! X.xe)(hc:b0!)(hi:PI X tg ii! wi)(hg:PG X tg g)(hb:PSs X dM! tb) (hs:lv! (lm! x=lu!)):PS X (.For tg ii! dM! [] pos) (zwP wi g tb):=by
 refine nn! (wpAny_For (thn (hi ae s O H _ I h) λv s1 h1=>thn h1 λeI s2 h2=>?_) hs);obtain⟨it,fp,tn,J,H2,e,I2,T,bj,f2,W,⟨m0,w0⟩,turn⟩:=h2;subst e;have bC:∀{H':Hp},(∀b∈fp,gf! b)->∀b∈fp,zcG X ae H' b:=λhn b hb=>⟨hn b hb,(f2 b hb).2⟩;refine codeAny_forLoop_any (λn s'=>∃i O' H',k3! O' H' s'/\tn i gR!/\(∀b∈fp,gf! b)/\W i n O' H') ?_ m0 ⟨0,O,H2,I2,bj,cv! (f2 b hb).1,w0⟩;rintro n s3 ⟨i,O3,H3,I3,cB,iY,w3⟩;rcases turn i n O3 H3 w3 with⟨stop,qn⟩ | ⟨go,N,hN,step⟩
 ·refine _a6 hp (thn (T.done X rfl rfl rfl hc i ae s3 O3 H3 X.xe I3 (bC iY) cB stop) λr s4 ⟨hr,I4⟩=>?_);subst hr;exact _cv ⟨O3,H3,I4,qn⟩
 ·refine _a6 hp (thn (T.item X rfl rfl rfl hc i ae s3 O3 H3 X.xe I3 (bC iY) cB go) λr s4 ⟨u,hr,h4⟩=>?_);subst hr;refine _a6 hp (thn h4 λ_ s5 ⟨x,H5,I5,r5,y5,gG,mj⟩=>(_a6 hp (thn (hg _ s5 O3 H5 x u _ (I5.pinned (bC mj) (T.obj _ _ gG)) r5 (step x H5 y5)) λ_ s6 ⟨O6,H6,I6,q6⟩=>?_)));refine _a6 hp (thn (hb _ s6 O6 H6 _ I6 q6) λf s7 q7=>?_);have again:∀{O7:St}{H7:Hp},Inv X (ae++zcn fp s5.heap) O7 H7 s7->N O7 H7->∃m,m<n/\∃i O' H',k3! O' H' s7/\tn i s7.heap/\(∀b∈fp,gf! b)/\W i m O' H':=λ{O7 H7} I7 n7=>by
   obtain⟨m',hm,w7⟩:=hN O7 H7 n7;refine⟨m',hm,i+1,O7,H7,I7.unpinned,T.keep _ _ _ gG (pm! (I7.pin (b,o) (_P _ (_P _ (kN hb e)))).1),cv! ?_,w7⟩;obtain⟨o,e,d⟩:=T.obj _ _ gG b hb;exact (I7.pin (b,o) (_P _ (_P _ (kN hb e)))).2.1
  cases f with
  | next=>obtain⟨O7,H7,I7,n7⟩:=q7;exact again I7 n7 | cont=>obtain⟨O7,H7,I7,n7⟩:=q7;exact again I7 n7 | brk=>obtain⟨O7,H7,I7,q7⟩:=q7;exact ck! O7 H7 I7.unpinned q7 | ret v=>obtain⟨x7,O7,H7,I7,r7,q7⟩:=q7;exact⟨x7,O7,H7,I7.unpinned,r7,q7⟩
end
abbrev R2:=V->V->Hp->eU!
def OpR(X:Cx)(f:d2!->d2!->Sem d2!)(r:R2):g!:= ∀(ae:List (Addr×Obj))(s:Shared)(O:St)(H:Hp)(x y:V)(v u:Value)(Q:VK),N!->wQ x v->wQ y u->r x y H Q-> bR! (f v u) (EP X ae O Q) s
def UnR(X:Cx)(f:d2!->Sem d2!)(r:V->Hp->eU!):g!:= ∀(ae:List (Addr×Obj))(s:Shared)(O:St)(H:Hp)(x:V)(v:Value)(Q:VK),N!->wQ x v->r x H Q-> bR! (f v) (EP X ae O Q) s
def wo(X:Cx)(f:Value)(r:aG!->Hp->eU!):g!:= ∀(ae:List (Addr×Obj))(s:Shared)(O:St)(H:Hp)(xs:List V)(us:List Value)(Q:VK),N!->jo!->r xs H Q-> bR! (call f us) (EP X ae O Q) s
def tOp(r:R2)(ta tb:TE):TE:=gS! (ta O H (hO! (tb O H1 λy H2=>r x y H2 Q)))
def tUn(r:V->Hp->eU!)(ta:TE):TE:=gS! (ta O H (hO! (r x H1 Q)))
def rI(C:Int->Int->g!)(g:Int->Int->V):R2:=hQ! (∃i j,x=U!/\y=c! j/\C i j/\Q (g i j) H)
def rI0(g:Int->Int->V):R2:=hQ! (∃i j,x=U!/\y=c! j/\Q (g i j) H)
def rU(g:Int->V):V->Hp->eU!:=λx H Q=>∃i,x=U!/\Q (g i) H
section
variable {X:Cx}{a b c:Expr}{ta tb tc:TE}{pos:Pos}
theorem zuN(ha:W! a ta)(hb:W! b tb) {O:St} {R:V->V->bW!}(I:N!) (h:ta O H (hO! (tb O H1 λy H2=>R x y H2))) {f:d2!->d2!->Sem d2!} (hf:∀v u s2 x y H2,cQ! H2 s2->wQ x v->wQ y u->R x y H2->bR! (f v u) Q s2): bR! (hr! a) (λv s₁=>bR! (hr! b) (λu s₂=>bR! (f v u) Q ms!) jE!) s:=by exact thn (ha ae s O H _ I h) λv s1 ⟨x,H1,I1,r1,q1⟩=>(thn (hb ae s1 O H1 _ I1 q1) λu s2 ⟨y,H2,I2,r2,q2⟩=>(hf v u s2 x y H2 I2 r1 r2 q2))
theorem zsr(ho:gG! op r)(ha:W! a ta)(hb:W! b tb):W! (.BinOp a op b pos) (tOp r ta tb):=iP! (wpAny_BinOp (zuN ha hb I h λv u s2 x y H2 I2 rx ry q=>ho ae s2 O H2 x y v u Q I2 rx ry q))
theorem zrm(ho:UnR X (unaryOp op) r)(ha:W! a ta):W! (.UnaryOp op a pos) (tUn r ta):=iP! (UnaryOp_ (thn (ha ae s O H _ I h) λv s1 ⟨x,H1,I1,r1,q1⟩=>ho ae s1 O H1 x v Q I1 r1 q1))
theorem opI{g:Int->Int->Int} (rule:∀(i j:Int) (t u:Tok) (s:Shared) (Q:Value->Shared->Prop) (E:Value->Shared->Prop),C i j->Q (bE! (g i j) fZ!) {s with toks:=fZ!+1}->l6! (f (ci! i) (bE! j u)) Q E s): OpR X f (rI C (mT! (g i j))):=by
 intro ae s O H x y v u Q I rx ry h;obtain⟨i,j,rfl,rfl,hc,q⟩:=h;obtain⟨t,rfl⟩:=rx;obtain⟨t',rfl⟩:=ry;exact rule i j t t' s _ _ hc ⟨c! (g i j),H,iz!,cl! _,q⟩
theorem zvD{g:Int->Int->Int} (rule:∀(i j:Int) (t u:Tok) (s:Shared) (Q:Value->Shared->Prop) (E:Value->Shared->Prop),Q (bE! (g i j) fZ!) {s with toks:=fZ!+1}->l6! (f (ci! i) (bE! j u)) Q E s): OpR X f (rI0 (mT! (g i j))):=by
 intro ae s O H x y v u Q I rx ry h;obtain⟨i,j,rfl,rfl,q⟩:=h;obtain⟨t,rfl⟩:=rx;obtain⟨t',rfl⟩:=ry;exact rule i j t t' s _ _ ⟨c! (g i j),H,iz!,cl! _,q⟩
theorem zsm{g:Int->eB! Int} (rule:∀(i j:Int)(t u:Tok)(s:Shared)(Q:Value->Shared->Prop)(E:Value->Shared->Prop),Q (.bool (g i j)) s->l6! (f (ci! i) (bE! j u)) Q E s): OpR X f (rI0 λi j=>.bl (g i j)):=by
 intro ae s O H x y v u Q I rx ry h;obtain⟨i,j,rfl,rfl,q⟩:=h;obtain⟨t,rfl⟩:=rx;obtain⟨t',rfl⟩:=ry;exact rule i j t t' s _ _ (br! (.bl (g i j)) H I q)
def zwh(i j:Int):g!:=0<=j/\j<=1000000/\eF!<2 ^ 64
theorem zqF:gG! .Add (rI0 (mT! (i+j))):=zvD (qv! (add_int q))
theorem zpE:gG! .Sub (rI0 (mT! (i-j))):=zvD (qv! (sub_int q))
theorem zpR:gG! .Mod (rI (λ_ j=>0<j) (mT! (i % j))):=opI λi j _ _ _ _ _ hc q=>mod_int' (by lia) (by rw[Int.fmod_eq_emod_of_nonneg i (by lia)];exact q)
theorem zrn:gG! .Pow (rI zwh (mT! (i ^ kS!))):=opI λ_ _ _ _ _ _ _ hc q=>pow_int_small hc.1 hc.2.1 hc.2.2 q
theorem unI{g:Int->Int} (rule:∀(i:Int) (t:Tok) (s:Shared) (Q:Value->Shared->Prop) (E:Value->Shared->Prop),Q (bE! (g i) fZ!) {s with toks:=fZ!+1}->l6! (f (ci! i)) Q E s): UnR X f (rU λi=>c! (g i)):=by
 intro ae s O H x v Q I rx h;obtain⟨i,rfl,q⟩:=h;obtain⟨t,rfl⟩:=rx;exact rule i t s _ _ ⟨c! (g i),H,iz!,cl! _,q⟩
theorem zlZ:UnR X (unaryOp .USub) (rU λi=>c! (-i)):=unI λ_ _ _ _ _ q=>neg_int q
end
section
variable {X:Cx}{a b c:Expr}{ta tb tc:TE}{pos:Pos}
theorem zqf{O:St} (I:N!)(q:Q (.bl k) H)(e:k=k'):EP X ae O Q (.bool k') s:=by
 subst e;exact br! (.bl k) H I q
theorem zuG:d0! .Lt (rI0 λi j=>.bl (eu! i j)):=zsm (qv! (lt_int q))
theorem zsw:d0! .LtE (rI0 λi j=>.bl (jv! i j)):=zsm (qv! (le_int q))
theorem ztx:d0! .Gt (rI0 λi j=>.bl (eu! j i)):=zsm (qv! (gt_int q))
theorem ztU:d0! .GtE (rI0 λi j=>.bl (jv! j i)):=zsm (qv! (ge_int q))
theorem zpq:d0! .Is (hQ! (y=aA!/\Q (.bl (jb! x aA!)) H)):=by
 intro ae s O H x y v u Q I rx ry h;obtain⟨rfl,q⟩:=h;cases ry;refine is_none_gen (zqf I q ?_);cases x<;>(obtain⟨t,rfl⟩:=rx;rfl)
theorem OpR.or(h:OpR X f r)(h':OpR X f r'):OpR X f (hQ! (r x y H Q\/r' x y H Q)):=by
 intro ae s O H x y v u Q I rx ry q;rcases q with q | q;·exact h ae s O H x y v u Q I rx ry q
 ·exact h' ae s O H x y v u Q I rx ry q
theorem zmG(b:Expr) (h:kj! (op≠.In))(h2:kj! (op≠.NotIn)):p1! b=q!:=by
 have e2:(op==CmpOp.NotIn)=q!:=by cases op<;>first | rfl | exact fn! h2
 cases b<;>simp[behindInMarks,(show (op==CmpOp.In)=q! from by cases op<;>first | rfl | exact fn! h),e2]
theorem ziy(ho:d0! op r)(ha:W! a ta)(hb:W! b tb)(hm:p1! b=q!):W! (.Compare a [op] [b] pos) (tOp r ta tb):=iP! (wpAny_Compare1 (zuN ha hb I h λv u s2 x y H2 I2 rx ry q=>ho ae s2 O H2 x y v u Q I2 rx ry q) hm)
def zqv(t:TE):TT:=li! O H (λx H'=>∃k,x=.bl k/\Q k H')
theorem znE(ho:d0! op r)(ha:W! a ta)(hb:W! b tb)(hm:p1! b=q!):PT X (.Compare a [op] [b] pos) (zqv (tOp r ta tb)):=by
 refine iP! (wpAny_isTrue_Compare1 (thn (ha ae s O H _ I h) λv s1 ⟨x,H1,I1,r1,q1⟩=>thn (hb ae s1 O H1 _ I1 q1) λu s2 ⟨y,H2,I2,r2,q2⟩=> thn (ho ae s2 O H2 x y v u _ I2 r1 r2 q2) λc s3 ⟨z,H3,I3,r3,k,e,q3⟩=>?_) hm);subst e;cases r3;exact _aW ⟨H3,I3,q3⟩
def zlP(r r':R2)(ta tb tc:TE):TE:=gS! (ta O H (hO! (tb O H1 λy H2=>r x y H2 λz H3=>∃k,z=.bl k/\ (aF! k (tc O H3 λw' H4=>r' y w' H4 Q) (Q eN! H3)))))
theorem zkP(ho:d0! op r)(bW:d0! c8 r')(ha:W! a ta)(hb:W! b tb)(hc:W! c tc) (hm:autoParam (lastMarks [op,c8] [b,c]=q!) aWu):W! (.Compare a [op,c8] [b,c] pos) (zlP r r' ta tb tc):=by
 refine iP! (Compare_chain (thn (ha ae s O H _ I h) λv s1 ⟨x,H1,I1,r1,q1⟩=>chain_link (thn (hb ae s1 O H1 _ I1 q1) λu s2 ⟨y,H2,I2,r2,q2⟩=> thn (ho ae s2 O H2 x y v u _ I2 r1 r2 q2) λd s3 ⟨z,H3,I3,r3,k,e,q3⟩=>?_)) hm);subst e;cases r3;refine _aW ?_;cases k with
 | false=>exact ite_ff (br! eN! H3 I3 q3) | true=>exact ite_tt (chain_last (thn (hc ae s3 O H3 _ I3 q3) λw' s4 ⟨z',H4,I4,r4,q4⟩=>bW ae s4 O H4 y z' u w' Q I4 r2 r4 q4))
theorem zeu:eM! aY!<2 ^ 63:=by decide
theorem zfE:gG! .Add (hQ! (∃i j,x=aD! i/\y=aD! j/\i.length+j.length<=aY!/\Q (aD! (i++j)) H)):=by
 intro ae s O H x y v u Q I rx ry h;obtain⟨i,j,rfl,rfl,hz,q⟩:=h;obtain⟨t,rfl⟩:=rx;obtain⟨t',rfl⟩:=ry;exact add_str (λt' tk=>⟨aD! (i++j),H,iz!,cl! _,q⟩) hz
theorem vals1(r:kB! [x]):∃u,us=[u]/\wQ x u:=by cases r with | cons r1 r2=>cases r2;exact aH! _ r1
theorem vals2(r:kB! [x,y]):∃u w',us=[u,w']/\wQ x u/\wQ y w':=by cases r with | cons r1 r2=> cases r2 with | cons r3 r4=>cases r4;exact g6! _ _ r1 r3
theorem zk7:mk! X "abs" (∃i,xs=[U!]/\Q (c! (an! (i<0) (-i) i)) H):=by
 intro ae s O H xs us Q I r h;obtain⟨i,rfl,q⟩:=h;obtain⟨u,rfl,t,rfl⟩:=lj!;exact call_abs_int λu tk=>⟨c! (an! (i<0) (-i) i),H,iz!,cl! _,q⟩
theorem zi0(hc:b0!):mk! X nQ! (∃i j,xs=cU! i j/\Q (c! (an! (j > i) j i)) H):=by
 intro ae s O H xs us Q I r h;obtain⟨i,j,rfl,q⟩:=h;obtain⟨u,w',rfl,⟨t,rfl⟩,⟨t',rfl⟩⟩:=vals2 r;refine max_two_ints ht! λh' tk k=>⟨_,H,mu! k,?_,q⟩;by_cases hj:j > i;·rw[_g hj,_g hj];exact cl! _
 ·rw[_o hj,_o hj];exact cl! _
theorem zgM(hc:b0!):mk! X nR! (∃i j,xs=cU! i j/\Q (c! (an! (j<i) j i)) H):=by
 intro ae s O H xs us Q I r h;obtain⟨i,j,rfl,q⟩:=h;obtain⟨u,w',rfl,⟨t,rfl⟩,⟨t',rfl⟩⟩:=vals2 r;refine min_two_ints ht! λh' tk k=>⟨_,H,mu! k,?_,q⟩;by_cases hj:j<i;·rw[_g hj,_g hj];exact cl! _
 ·rw[_o hj,_o hj];exact cl! _
theorem zi8:wo X (ar! eE!) (λxs H Q=>(∃i,xs=[U!]/\Q U! H)\/∃k,xs=[.bl k]/\Q (c! (an! k 1 0)) H):=by
 intro ae s O H xs us Q I r h;rcases h with⟨i,rfl,q⟩ | ⟨k,rfl,q⟩
 ·obtain⟨u,rfl,t,rfl⟩:=lj!;exact call_int_int ⟨U!,H,I,cl! _,q⟩
 ·obtain⟨u,rfl,r1⟩:=lj!;cases r1;exact call_int_bool ⟨c! (an! k 1 0),H,iz!,cl! _,q⟩
end
structure zv7(h:Heap)(x dx C:Addr)(mA:Str->aU!):g! where
 obj:eK! x (W.instObj C dx)
 ns:h.Ns1 dx mA
 ne:dx≠x
theorem zit{h:Heap} (n:h.Ns1 dx mA):∃od,eK! dx od/\∀name,W.lookIn iQ! od=b! (mA iQ!):=by
 obtain⟨o,es,ep,ho,hd,hk,_,hm⟩:=n;refine cB! ho (λname=>?_);have e:=hm iQ!;unfold nsFind findBy at e;rw[<- Array.find?_toList]at e;unfold W.lookIn;rw[hd];dsimp only;split
 ·rename_i y q;rw[q]at e;exact _au some e
 ·rename_i q;rw[q]at e
  rw[_o (by rw[(show es.toList.any (·.refKey)=q! from by
   rw[List.any_eq_false];intro y hy;obtain⟨z,t,gH⟩:=hk y (Array.mem_toList_iff.mp hy);simp[DictEntry.refKey,gH])];exact _aB)];exact _au some e
theorem zv7.look(I:zv7 h x dx C mA):∃od,W.InstAt h x (W.instObj C dx) C (b! od)/\∀name,W.lookIn iQ! od=b! (mA iQ!):= let ⟨od,ho,hl⟩:=zit I.ns;⟨od,fO! I.obj rfl ho,hl⟩
section
variable {P:Program}{w:World}{H H':Hp}{h h':Heap}{a C dx:Addr}{fs dU:bU! V}
theorem zhS(hok:HOk P w H h)(e:ct! (.ins C dx fs)):∃mA,zv7 h a dx C mA/\(∀f,zvd (fs.lookup f) (mA f))/\PySem.Within mA (fs.map (·.1))/\dv! fs.length/\H dx=b! (.own a):=by
 obtain⟨d,z,ne,ob,mA,n,r,q⟩:=((hok a _ e));exact⟨mA,a3! ob n ne,r,q,z,d⟩
end
structure Cls(K:W.Frag)(C:Addr):g! where
 pg:W.plainGet K C Str.empty=d!
 hd:W.hasDictIn K C=d!
 po:W.plainOver K C=d!
 sa:W.findIn K ap! "__setattr__"=b! (h4! "object.__setattr__")
theorem Cls.get{K:W.Frag} (c:Cls K C)(f:Str):W.plainGet K C f=d!:=c.pg
section
variable {X:Cx}{ae:dp!}{O:St}{H:Hp}{s:Shared}{A:Around}{E:b1!}{Q:b1!}{c:Value}{b:Bool}
inductive zcV(K:W.Frag)(H:Hp):V->d2!->g! where | non:zcV K H aA! (ar! "NoneType") | bl (x:Bool):zcV K H (.bl x) (ar! ig!) | int (i:Int):zcV K H U! (ar! eE!) | str (x:Str):zcV K H a1! (ar! go!) | flt (x:UInt64):zcV K H (.flt x) (ar! "float") | lst {a:Addr}{xs:aG!}(e:ct! bx!):zcV K H ag! dk! | frz {a:Addr}{o:Obj}{xs:aG!}(e:ct! (ec! bx!)):zcV K H ag! dk! | tup {a:Addr}{xs:aG!}(e:ct! af!):zcV K H ag! dR! | dK {a:Addr}{ah:i1! Key V}(e:ct! hd!):zcV K H ag! kr! | dT {a:Addr}{ah:i1! (em! Key) V}(e:ct! (.dT ah)):zcV K H ag! kr! | ins {a C dx:Addr}{fs:bU! V}(e:ct! (.ins C dx fs))(cl:Cls K C)(ha:W.findIn K ap! ph!=b! (b! oJ!)) (hn:W.specialIn K oJ! "__get__"=b! (h4! "getset_descriptor.__get__"))(fU:W.takesIn K oJ!=b! d!) (hm:W.mroIn K C (ar! "object")=b! d!):zcV K H ag! ap!
theorem zhy(I:N!) (rx:wQ x u) (ty:zcV X.K H x t) (e:na! X.K t c=b! b) (h:∀tk,Q lq! {s with toks:=tk}): gu! aV! X.w A (p8! gP! [u,c]) Q E s:=by cases ty with
 | non=>cases (rx);exact lt! W.kitx_none lI! e (λz=>nomatch z) h | bl y=>cases (rx);exact lt! W.kitx_bool lI! e (λz=>nomatch z) h | int i=>obtain⟨t,q⟩:=(rx);cases q;exact lt! W.kitx_int lI! e (λz=>nomatch z) h | str y=>obtain⟨t,q⟩:=(rx);cases q;exact lt! W.kitx_str lI! e (λz=>nomatch z) h | flt y=>obtain⟨t,q⟩:=(rx);cases q;exact lt! W.kitx_float lI! e (λz=>nomatch z) h | @lst a xs ea=>
  cases (rx);obtain⟨_,_,n,_,h1⟩:=(g9! a ea);exact lt! W.kitx_list (ce! h1) e (λz=>nomatch z) h | @frz a ob xs ea=>
  cases (rx);obtain⟨_,_,_,n,_,h1⟩:=(g9! a ea);exact lt! W.kitx_list (ce! h1) e (λz=>nomatch z) h | @tup a xs ea=>
  cases (rx);obtain⟨_,_,_,p⟩:=(g9! a ea);obtain⟨o,h1,h2,_⟩:=p;exact lt! W.kitx_tuple (cB! h1 h2) e (λz=>nomatch z) h | @dK a ah ea=>
  cases (rx);obtain⟨_,_,vs,_,p⟩:=(g9! a ea);obtain⟨o,es,ep,h1,h2,_⟩:=p;exact lt! W.kitx_dict (cB! h1 h2.1) e (λz=>nomatch z) h | @dT a ah ea=>
  cases (rx);obtain⟨_,_,xs,_,o,es,ep,h1,h2,_⟩:=(g9! a ea);exact lt! W.kitx_dict (cB! h1 h2.1) e (λz=>nomatch z) h | @ins a C dx fs ea cl ha hn fU hm=>
  cases (rx);obtain⟨mA,Oo,_⟩:=zhS eZ! ea;obtain⟨od,J,_⟩:=Oo.look;exact lt! (W.kitx_own (cl.get _) cl.hd ha hn fU hm) J e (λz=>nomatch z) h
end
structure z2G(k:Nat)(A:Around):g! where
 hd:nH!
 dp:qw!+3*k+5<recursionLimit
 un:pn!+16*k+200<np!
 gd:A.guards=b! []
theorem z2G.mono(r:z2G k A)(h:j<=k):z2G j A:=⟨r.hd,by have:=r.dp;lia,by have:=r.un;lia,r.gd⟩
theorem z2G.deeper(r:z2G (k+1) A)(env:Env):z2G k (A.deeper env):= ⟨r.hd,by have:=r.dp;show qw!+1+3*k+5<_;lia,by have:=r.un;show pn!+3+16*k+200<_;lia,r.gd⟩
theorem z2G.depth(r:z2G k A):qw!<recursionLimit:=by have:=r.dp;lia
theorem z2G.units(r:z2G k A):pn!+64<np!:=by have:=r.un;lia
def zvw:TA:=λ_ H Q=>Q [] H
def ztn(ta:TE)(tr:TA):TA:=gS! (ta O H (hO! (tr O H1 λxs H2=>Q (x::xs) H2)))
section
variable {X:Cx}{e:Expr}{es:aI!}{te:TE}{t:TA}{pos:Pos}
theorem z1e:PA X [] zvw:=λ_ _ _ _ H Q I h=>_c6 ⟨[],H,I,cD!,h⟩
theorem wV(ha:W! e te)(hr:PA X es t)(hs:B! (aw! (e::es)=d1!::iD!)):PA X (e::es) (ztn te t):=by
 intro pos ae s O H Q I h;rw[hs];exact _cP (thn (ha ae s O H _ I h) λu s1 ⟨x,H1,I1,r1,q1⟩=>(thn (hr pos ae s1 O H1 _ I1 q1) λus s2 ⟨xs,H2,I2,r2,q2⟩=>⟨x::xs,H2,I2,eX! r1 r2,q2⟩))
def zwx(t:TA):TE:=li! O H (λxs H1=>w!<=aY!/\∀p,H1 p=a!->Q cg! (upd H1 p af!))
def zw2(t:TA):TE:=li! O H (λxs H1=>w!<=aY!/\∀p,H1 p=a!->Q cg! (upd H1 p bx!))
theorem zlO(h:PA X es t):W! (hP! es x1 pos) (zwx t):=by
 refine λae s O H Q I hq=>wpAny_Tuple_spliced (thn (h pos ae s O H _ I hq) λus s1 ⟨xs,H1,I1,r,z,q⟩=>⟨by rw[<- r.length];exact z,?_⟩);exact⟨y! iR!,upd H1 iR! af!,I1.laid (λb u e=>_i _ e) am! ⟨z,us,r,⟨_,hh!,rfl,rfl,_,rfl⟩⟩,rfl,q _ (sS! am!)⟩
theorem zmH(h:PA X es t):W! (.List es pos) (zw2 t):=by
 refine λae s O H Q I hq=>wpAny_List_spliced (thn (h pos ae s O H _ I hq) λus s1 ⟨xs,H1,I1,r,z,q⟩=>⟨by rw[<- r.length];exact z,?_⟩);exact⟨y! iR!,upd H1 iR! bx!,I1.laid (λb u e=>_i _ e) am! ⟨z,us,0,r,hh!⟩,rfl,q _ (sS! am!)⟩
end
abbrev Sp:=aG!->Hp->VK->XK->g!
abbrev CXT:=mV!->Hp->n5!->XK->b1!
structure zsa(P:Program)(w:World)(K:W.Frag)(mg:Str->aU!)(base:Heap)(A:Around)(outer:mV!)(s:Shared)(H:Hp):g! where
 frames:A.frames=b! au!
 mod:Mod K mg R!
 bs:bJ! (base.get? b=b! o->dx! b/\fk!)
 bsz:base.objs.size<=at!
 funs:s.heap.FunFrames R! au!
 frf:∀b∈mR!,fk!
 hok:HOk P w H L!
 bare:rP! s.gens
def CE(outer:mV!)(P:Program)(w:World)(H:Hp)(s:Shared)(Q:VK)(u:Value)(s':Shared):g!:= ∃v H',qp!=s.os/\rv!/\Un mR! [] H H' L! gR!/\HOk P w H' gR!/\wQ v u/\Q v H'
def CR(CX:CXT)(outer:mV!)(P:Program)(w:World)(H:Hp)(s:Shared)(Q:VK)(E:XK)(r:Result)(s':Shared):g!:= match r with
 | .ok (.ret u)=>CE au! P w H s Q u s' | .ok _=>False | .error e=>CX au! H s E e s'
structure za7(P:Program)(w:World)(K:W.Frag)(mg:Str->aU!)(base:Heap)(CX:CXT)(k:Nat)(f:Addr)(fd:FuncData)(ps:aq!)(sp:Sp):g! where
 len:∀vs H Q E,sp vs H Q E->mI!
 run:∀(A:Around)(outer:List Env)(s:Shared)(H:Hp)(args:Args)(us:List Value)(vs:List V)(Q:VK)(E:XK),z2G k A->zsa P w K mg R! A au! s H->qx! s fd kb! mi!->kB! vs->sp vs H Q E-> kT! (model P w) A (.call ft! kb!) (CR CX au! P w H s Q E) s
theorem za7.mono{P:Program}{w:World}{K:W.Frag}{mg:Str->aU!}{base:Heap}{CX:CXT}{j k:Nat}{f:Addr}{fd:FuncData}{ps:aq!}{sp:Sp}(F:za7 P w K mg R! CX j f fd ps sp)(h:j<=k): za7 P w K mg R! CX k f fd ps sp:=⟨F.len,λA outer s H args us vs Q E hr=>F.run A au! s H kb! us vs Q E (hr.mono h)⟩
theorem za7.imp{P:Program}{w:World}{K:W.Frag}{mg:Str->aU!}{base:Heap}{CX:CXT}{k:Nat}{f:Addr}{fd:FuncData}{ps:aq!}{sp iZ:Sp}(F:za7 P w K mg R! CX k f fd ps sp) (h:∀vs H Q E,iZ vs H Q E->sp vs H Q E):za7 P w K mg R! CX k f fd ps iZ:= ⟨λvs H Q E q=>F.len vs H Q E (h _ _ _ _ q),λA outer s H args us vs Q E hr he hb hv hs=>F.run A au! s H kb! us vs Q E hr he hb hv (h _ _ _ _ hs)⟩
section
variable {X:Cx}{ae:dp!}{O:St}{H:Hp}{s s':Shared}
theorem Inv.env0(I:N!):zsa aV! X.w X.K fG! fm! X.A jB! s H:= ⟨I.ok.frames,I.ok.mod,I.bs,_G I.ok.bsz I.sz,I.stack,I.stkFree,eZ!,jD!⟩
theorem Inv.after(I:N!)(h:CE jB! aV! X.w H s Q u s'):EP X ae O Q u s':=by
 obtain⟨v,H',os,bare,un,hok,r,q⟩:=h;obtain⟨hh,g,d,t,ml⟩:=s';obtain rfl:ml=s.os:=os;exact⟨v,H',I.call un hok bare (λb z=>pd! (by simp)),r,q⟩
end
def znn(sp:Sp)(bJ:aG!)(E:XK)(t:TA):TE:=li! O H (λvs H1=>sp (vs++bJ) H1 Q E)
def Binds(K:W.Frag)(fd:FuncData)(ps:aq!)(ds:bZ!):g!:= ∀(s:Shared)(us:List Value),K.In L!->t! (us++ds)=a5!->qx! s fd (dT! us) (ps.zip (us++ds))
theorem Binds.all{K:W.Frag}{fd:FuncData}{ps:aq!}(h:∀us:List Value,iK!=a5!->qy! fd (dT! us)=d3! mi!):kF! K ps []:=λs us _ hl=>by
 rw[_aL]at hl ⊢;exact .of_eq (h us hl)
def Passes(CX:CXT)(X:Cx)(E:XK):g!:=∀(ae:List (Addr×Obj))(O:St)(H:Hp)(s:Shared)(e:Value)(s':Shared),N!->CX jB! H s E e s'->X.xe e s'
section
variable {X:Cx}{CX:CXT}{k:Nat}{f C:Addr}{fd:FuncData}{ps:aq!}{sp:Sp}{bJ:aG!}{ds:bZ!}{E:XK}{x m:Str}{p pos ao:Pos}{e o:Expr}{es:aI!}{ta:TE}{t:TA}
theorem zfn{O:St} (F:za7 aV! X.w X.K fG! fm! CX k f fd ps sp)(hr:z2G k X.A)(hb:kF! X.K ps ds)(hd:xt bJ ds)(hx:ld! X E) (I:N!)(r:kB! vs)(h:sp (vs++bJ) H Q E):bR! (call ft! us) (EP X ae O Q) s:=by
 have r2 := r.append hd;refine wpAny_call (_dK (F.run X.A jB! s H (dT! us) (us++ds) (vs++bJ) Q E hr I.env0 (hb s us jF! (by rw[<- r2.length];exact F.len _ _ _ _ h)) r2 h) λr s' hq=>?_);cases r with
 | error e=>exact hx ae O H s e s' I hq | ok fl=> cases fl with
  | ret u=>exact I.after hq | next=>exact rx! | brk=>exact rx! | cont=>exact rx!
theorem znp(F:za7 aV! X.w X.K fG! fm! CX k f fd ps sp) (hr:z2G k X.A) (hg:fj!) (hm:X.mg x=b! ft!) (hk:o2! X.K=d!) (hb:kF! X.K ps ds) (hd:xt bJ ds) (hx:ld! X E) (ha:PA X (e::es) t) (aG:cp! (x==cP!)) (he:B! (aw! (e::es)=d1!::iD!)) (au:eg! es (·.1)): W! (dw! x p (e::es)) (znn sp bJ E t):=by
 intro ae s O H Q I h;refine _ar (z4v I hg hm (_dL I.ok.mod.kin hk (thn (ha pos ae s O H _ I h) λus s1 ⟨vs,H1,I1,r,q⟩=>as! I1.kIn ?_) he au) aG);exact zfn F hr hb hd hx I1 r q
theorem zjw(F:za7 aV! X.w X.K fG! fm! CX k f fd ps sp)(hr:z2G k X.A)(hg:fj!)(hm:X.mg x=b! ft!)(hk:o2! X.K=d!)(hb:kF! X.K ps ds)(hd:xt bJ ds)(hx:ld! X E) (aG:cp! (x==cP!)):W! (dw! x p []) (znn sp bJ E zvw):=by exact iP! (_ar (z4v I hg hm (W.callWith_K0 jF! hk (zfn F hr hb hd hx I cD! h)) aG))
end
structure zu(N P:aq!)(sc:Scope):g! where
 kind:sc.kind=sl!
 co:sc.isCoroutine=q!
 gen:sc.isGenerator=q!
 nd:N.Nodup
 pre:N.take P.length=P
 par:∀x∈P,oN!=b! pj!\/oN!=dH!
 nofree:∀y∈sc.names,y.2≠bY!
theorem zbZ{kindOf:Str->bq! lJ!} : ∀{binds:List (Str×Value)}{m:Str->Option Value},(∀v,(x,v)∉binds)->bindL qz! binds m x=m x
 | [],_,_=>rfl | (n,v)::r,m,h=>by
  unfold bindL;rw[zbZ λw hw=>h w (_K _ hw)];split;·simp[(show x≠n from by rintro rfl;exact h v _am)]
  ·rfl
theorem zcK{kindOf:Str->bq! lJ!} : ∀{binds:List (Str×Value)}{m:Str->Option Value},(∀v,(x,v)∉binds)->bindC qz! binds m x=m x
 | [],_,_=>rfl | (n,v)::r,m,h=>by
  unfold bindC;rw[zcK λw hw=>h w (_K _ hw)];split;·rfl
  ·simp[(show x≠n from by rintro rfl;exact h v _am)]
theorem zbo{kindOf:Str->bq! lJ!} : ∀{P:List Str}{vs:List Value}{i:Nat}{m:Str->Option Value},P.Nodup->al! P x->al! vs v->kindOf x=b! pj!-> bindL qz! (P.zip vs) m x=bV!
 | [],_,_,_,_,h,_,_=>by cases h | _::_,[],_,_,_,_,h,_=>by cases h | p::P,w::vs,0,m,nd,h1,h2,hk=>by
  simp at h1 h2;subst h1;subst h2;show bindL qz! ((p,w)::P.zip vs) m p=_;unfold bindL;rw[zbZ λv hv=>(_cw.mp nd).1 (_ae hv).1,_g hk];simp | p::P,w::vs,i+1,m,nd,h1,h2,hk=>by
  unfold bindL;exact zbo (_cw.mp nd).2 (by exact h1) (by exact h2) hk
theorem zcD{kindOf:Str->bq! lJ!} : ∀{P:List Str}{vs:List Value}{i:Nat}{m:Str->Option Value},P.Nodup->al! P x->al! vs v->kindOf x≠b! pj!-> bindC qz! (P.zip vs) m x=bV!
 | [],_,_,_,_,h,_,_=>by cases h | _::_,[],_,_,_,_,h,_=>by cases h | p::P,w::vs,0,m,nd,h1,h2,hk=>by
  simp at h1 h2;subst h1;subst h2;show bindC qz! ((p,w)::P.zip vs) m p=_;unfold bindC;rw[zcK λv hv=>(_cw.mp nd).1 (_ae hv).1,_o hk];simp | p::P,w::vs,i+1,m,nd,h1,h2,hk=>by
  unfold bindC;exact zcD (_cw.mp nd).2 (by exact h1) (by exact h2) hk
noncomputable def start(N:aq!)(vs:aG!):St:=vs.map some++oM! (N.length-dN!)
noncomputable def z5B(CX:CXT)(P:Program)(w:World)(K:W.Frag)(mg:Str->aU!)(base:Heap)(N:aq!)(qual:Str)(scope:Scope)(f:Addr)(cd:Value)(A:Around)(outer:mV!)(s:Shared)(H:Hp)(E:XK):Cx where
 prog:=P;w:=w;K:=K;mg:=mg;base:=base;A:=kx! av! bF! f cd;N:=N;s₀:=s;H₀:=H;env:=pX! av! bF! f cd;outer:=outer;stack:=pX! av! bF! f cd::au!;ex:=[];calm:=A.handled.isNone;fn:=bk! d!;pn:=[];xe:=λe s'=>gu! P w (kx! av! bF! f cd) (leaving (pX! av! bF! f cd) e) (λ_ eJ=>CX au! H s E e eJ) (λe' eJ=>CX au! H s E e' eJ) s'
theorem z5U{sc:Scope} (h:oN!=dH!):∃c,ja! (so! n sc.names []) x c:=Option.isSome_iff_exists.mp (_ds sc.names n [] (C! h))
theorem zbS{K:W.Frag} (S:zu N ps bF!)(e0:zsa P w K mg R! A au! s H)(hl:mI!)(r:kB! vs) (x:InCallC s at! (bindL (pX! av! bF! f cd).kindOf mi! (bk! a!)) (mD! dZ! []) (bindC (pX! av! bF! f cd).kindOf mi! (bk! a!)) s1): Inv (z5B CX P w K mg R! N av! bF! f cd A au! s H E) [] (pf! N) H s1:=by
 have au:a5!<=N.length:=by have:=_au List.length S.pre;rw[_bE]at this;lia
 obtain⟨h1,tk,rfl,hk⟩:=x.done;have eK:∀b:Addr,b∉(z5B CX P w K mg R! N av! bF! f cd A au! s H E).ex:=λb z=>bO! (show b∈([]) from z) (by simp);refine⟨⟨e0.mod,S.kind,rfl,rfl,am!,λy z c h1 h2=>(name_of_addr x.apart (_ap h1) (_ap h2)),cN! ?_,λy c _ h=>(_bg (x.above y c (_ap h))),λh=>Option.isNone_iff_eq_none.mp h,Around.frames_deeper e0.frames,ew! rfl rfl,λb z=>pd! (eK b),e0.bs,e0.bsz,λb _ _=>eK b,λb z=>pd! (eK b),e0.funs,e0.frf⟩, rfl,e0.bare,Un.kept hk,bQ! x.toInCall.ns (λi y v h1 h2 h3=>?_),λy c h=>f9! (x.cell y c h),e0.hok.fresh am!,λy c h=>(e0.hok.fresh (_bg (x.above y c (_ap h)))),bs! (bO! (show p∈([]) from hp) (by simp)),e0.hok.kept hk,?_⟩
 ·rcases hy with hy | hy;·exact z5U hy
  ·exact fn! (S.nofree _ (_ap hy))
 ·have hi:i<dN!:=by
   unfold start at h2;by_cases hi:i<dN!;·exact hi
   ·rw[_by (by simpa using hi)]at h2;rw[_bc]at h2;split at h2<;>cases h2
  obtain⟨u,hu,rv⟩:=r.get (by
   unfold start at h2;rw[_H (by simpa using hi),_D]at h2;cases e:vs[i]? with
   | none=>rw[e]at h2;cases h2 | some a=>rw[e]at h2;cases h2;rfl);have hp:al! ps y:=by rw[<- S.pre,_an (by lia)];exact h1
  have i5:ps.Nodup:=by rw[<- S.pre];exact S.nd.sublist (_c7 _ _)
  refine a3! u rv ?_;rcases S.par y (_x hp) with k | k;·exact C! ⟨k,zbo i5 hp hu k⟩
  ·obtain⟨c,e⟩:=z5U k;refine T! ⟨C! k,c,e,?_⟩;have q:=x.cell y c e;rw[zcD i5 hp hu (by show kc! y≠_;rw[k];decide)]at q;exact q
 ·unfold start;show _=N.length;rw[_as,_z,_bt];lia
theorem zpu{K:W.Frag} {dV kV aE pm aj ct oc:Value} (lk:m8! f=b! ⟨oc,od,.func (W.fnOf iQ! av! params dM! bF! dV kV aE pm an aj ct),cC⟩)(bz:W.codeIn K aj av!=d!)(S:zu N ps bF!) (len:∀vs H Q E,sp vs H Q E->mI!) (aZ:∀(A:Around)(outer:List Env)(s:Shared)(H:Hp)(vs:List V)(Q:VK)(E:XK),z2G k (kx! av! bF! f aj)->sp vs H Q E-> ∃t,PSs (z5B CX P w K mg R! N av! bF! f aj A au! s H E) dM! t/\t {nx:=λ_ H'=>Q aA! H',rt:=Q} (pf! N) H): za7 P w K mg R! CX (k+1) f (W.fnOf iQ! av! params dM! bF! dV kV aE pm an aj ct) ps sp:=by
 refine⟨len,λA outer s H args us vs Q E hr e0 hb r cD=>?_⟩;have KX := e0.mod.kin.keeps (gQ! (e0.bs b o e).1);refine codeAny_call_function hr.depth (KX _ _ lk) rfl S.co S.gen rfl (W.codeRec_of KX bz) (hb _ _ _ _ (wpAny_newFunctionEnv_cells S.kind (λ⟨n,v⟩ hy=>by
  rcases S.par n (_ae hy).1 with q | q;·exact C! q
  ·exact ew! q (_ds _ _ _ (C! q))) λenv he s1 x=>?_));subst he;refine⟨(e0.mod.nolimit.keeps (gQ! (e0.bs b o e).1)).keeps x.toInCall.keep,codeAny_func ?_⟩;obtain⟨t,ht,hq⟩:=aZ A au! s H vs Q E (hr.deeper _) cD;refine _aa (ht [] s1 (pf! N) H _ (zbS S e0 (len _ _ _ _ cD) r x) hq) (λfl s' hs=>?_) λe s' hs=>hs;have fin:∀{O':St}{H':Hp}{v:V}{u:Value},Inv (z5B CX P w K mg R! N av! bF! f aj A au! s H E) [] O' H' s'->wQ v u->Q v H'->CE au! P w H s Q u s':= λ{O' H' v u} J rv q=>⟨v,H',J.os,J.bare,J.base,J.hok,rv,q⟩;cases fl with
 | ret u=>
  obtain⟨v,O',H',J,rv,q⟩:=hs;exact fin J rv q | next=>
  obtain⟨O',H',J,q⟩:=hs;exact fin (v:=V.non) J rfl q | brk=>
  obtain⟨_,_,_,q⟩:=hs;exact mt! q | cont=>
  obtain⟨_,_,_,q⟩:=hs;exact mt! q
section
variable {X:Cx}{x:Str}{p pos:Pos}{e:Expr}{es:aI!}{t:TA}{id T:String}{r:aG!->Hp->eU!}
def tCB(r:aG!->Hp->eU!)(t:TA):TE:=li! O H (λvs H1=>r vs H1 Q)
theorem z3E(hc:jR! X id r) (hg:fj!) (hm:dS! x) (hv:lC! x=h4! id) (ha:PA X (e::es) t) (hn:kj! (mc! x)) (aG:cp! (x==cP!)) (he:B! (aw! (e::es)=d1!::iD!)) (au:eg! es (·.1)):W! (dw! x p (e::es)) (tCB r t):=by
 intro ae s O H Q I h;exact _ar (z2g I hg hm hv (PyProof.Rows.callWith_builtin1 (thn (ha pos ae s O H _ I h) λus s1 ⟨vs,H1,I1,r1,q1⟩=>hc ae s1 O H1 vs us Q I1 r1 q1) he au) hn aG)
theorem ziA(hc:wo X kD! r) (hg:fj!) (hm:dS! x) (hv:k4! x kD!) (ha:PA X (e::es) t) (hn:kj! (mc! x)) (aG:cp! (x==cP!)) (he:B! (aw! (e::es)=d1!::iD!)) (au:eg! es (·.1)):W! (dw! x p (e::es)) (tCB r t):=by
 intro ae s O H Q I h;exact _ar (z2g I hg hm hv (_ab (thn (ha pos ae s O H _ I h) λus s1 ⟨vs,H1,I1,r1,q1⟩=>hc ae s1 O H1 vs us Q I1 r1 q1) he au) hn aG)
end
end L2
namespace HT
section
variable {prog:Program}{w:World}{A:Around}{E:b1!}{s:Shared}
theorem zon(ht:IsTup L! t e0!) (hb:IsTup L! b ws.toArray) (hv:a4! vs) (h1:ws=[]->Q (y! t) s) (h2:a4! ws->Q f4! {s with heap:=ij! ({cls:=dR!,data:=o3! (vs++ws)})}) (bf:dN!+ws.length<=aY!):cG! w A (binaryOp .Add (y! t) (y! b)) Q E s:=by
 obtain⟨⟨cls,dd,data,sl⟩,ho,hc,n,hd⟩:=id ht;obtain⟨⟨gI,fV,data2,cE⟩,dD,gJ,n2,eM⟩:=id hb;subst hc hd gJ eM;have e:e0!++ws.toArray=no! (vs++ws):=by simp
 by_cases hw:ws=[]
 ·exact concat_meets (ce! ho) (ce! dD) _dt seq_tuple_add _b2 _bX (_bP _ _) (tuple_addW1 t b e0! ws.toArray n n2 dd fV sl cE (by simpa using hv) (by simp[hw])) ⟨ho,dD,h1 hw⟩
 ·refine concat_meets (ce! ho) (ce! dD) _dt seq_tuple_add _b2 _bX (_bP _ _) (tuple_addW2 t b e0! ws.toArray n n2 dd fV sl cE (by simpa using hv) (by simpa using hw) (bf)) ⟨ho,dD,?_⟩;rw[e];exact h2 hw
noncomputable def sIx(n d:Nat):dm!->Nat
 | none=>d | some v=>an! (v<0) (fI! (v+j! n)) (min v.toNat n)
theorem zeq(n d:Nat):sIx n d a!=d:=rfl
theorem zhK(n d k:Nat):sIx n d (b! (j! k))=min k n:=by
 show (an! (k<0) (fI! (j! k+n)) (min (j! k).toNat n))=min k n;rw[_o (by lia),_W]
theorem zvB(n d:Nat)(hd:d<=n)(o:dm!):sIx n d o<=n:=by cases o with
 | none=>exact hd | some v=>
  show (an! (v<0) (fI! (v+n)) (min v.toNat n))<=n;by_cases hv:v<0;·rw[_g hv];lia
  ·rw[_o hv];exact Nat.min_le_right _ _
theorem zgT(v:Int)(n d:Nat):(an! (v<0) (max (v+j! n) 0) (min v (j! n)))=aa! (sIx n d bV!):=by
 show (an! (v<0) (max (v+n) 0) (min v n))=((an! (v<0) (fI! (v+n)) (min v.toNat n)):Nat);by_cases hv:v<0;·simp only[_g hv];lia
 ·simp only[_o hv];lia
theorem zfF(lo hi:dm!)(n:Nat):Builtin.Slice.sliceAdjust lo hi 1 (j! n)=(aa! (sIx n 0 lo),j! (sIx n n hi)):=by
 refine Prod.ext ?_ ?_;·cases lo with
  | none=>rfl | some v=>exact zgT v n 0
 ·cases hi with
  | none=>rfl | some v=>exact zgT v n n
theorem zfZ(i j:Nat):qA! (j! i) (j! j) 1=j-i:=by
 unfold Builtin.Slice.slicePlaces;split<;>lia
theorem z9u(p:og! v o)(h:Q o s):cG! w A (Builtin.Slice.slicePartIndex v) Q E s:=by cases p with
 | none=>exact _cR h | int i t=>exact slicePart_int h
theorem z0H{sl:Addr}{vl vu:Value}{lo hi:dm!}{n:Nat}{Q:Int×Int×Nat->eL!}(hs:r6! vl vu ab!)(pl:og! vl lo)(pu:og! vu hi) (h:Q (aa! (sIx n 0 lo),1,sIx n n hi-sIx n 0 lo) s):cG! w A (Builtin.Slice.sliceApplied (y! sl) (d3! (j! n))) Q E s:=by
 obtain⟨os,bX,cS,cO⟩:=id hs;refine _a (_a (p7! bX cO (_a (p7! bX cO (_a (p7! bX cO (_m (_a (_cR (_a (z9u pl (_a (z9u pu (_a (_m ?_)))))))))))))));show fR! _ _ (match Builtin.Slice.sliceAdjust lo hi 1 n with | (lo,hi)=>d3! (lo,j! 1,qA! lo hi 1)) _ _;rw[zfF lo hi n];show fR! _ _ (d3! (j! (sIx n 0 lo),1,qA! (sIx n 0 lo) (sIx n n hi) 1)) _ _;rw[zfZ];exact _m h
theorem zkH(xs:cF!)(i k:Nat):no! (r5! k (λ(m:Nat)=>xs[(j! i+j! m*1).toNat]?))=no! ((xs.toList.drop i).take k):=by
 have e:(λ(m:Nat)=>xs[(i+j! m*1).toNat]?)=λm=>xs[i+m]? := by
  funext m;rw[(show fI! (j! i+m*1)=i+m from by lia)]
 rw[e];have:=pick_run xs i k;rw[List.filterMap_map]at this;have e2:((λx=>xs[x]?) ∘ λx=>i+x)=λm=>xs[i+m]? := rfl;rw[e2]at this;rw[this]
theorem z4a{lo hi:dm!} (ht:IsTup L! t hm!) (hs:r6! vl vu ab!) (pl:og! vl lo) (pu:og! vu hi) (hw:¬ (l9! 0 lo=0/\l9! hR! hi=hR!)) (h:Q f4! {s with heap:=ij! ({cls:=dR!,data:=o3! ((items.toList.drop (l9! 0 lo)).take (l9! hR! hi-l9! 0 lo))})}) (bf:hR!<=aY!):cG! w A (getItem (y! t) (y! sl)) Q E s:=by
 obtain⟨os,bX,cS,cO⟩:=id hs;unfold getItem;try with_reducible refine _aT ?_
 refine _a (_c8 lL! (by decide) (_a (_ah lL! _R (_ax _R lL! _cC ?_ (_cS _ _)))));show fR! _ _ (Builtin.Tuple.tupleItemsOf (y! t) >>= _) _ _;refine _a (tupleItemsOf_ ht ?_);refine _a (_dM ⟨os,bX,cS⟩ (_a (z0H hs pl pu ?_)));show fR! _ _ (aF! (j! (l9! 0 lo)==0&&1==1&&(l9! hR! hi-l9! 0 lo)==hR!) _ _) _ _;rw[_o (by
  intro q;rw[_S,_S]at q;have q1 := eq_of_beq q.1.1;have q2 := eq_of_beq q.2;exact hw ⟨by lia,by lia⟩),zkH];exact _a (_aI (_m (aH! _ (_m h))) (by
  show ((items.toList.drop (l9! 0 lo)).take (l9! hR! hi-l9! 0 lo)).toArray.size<=aY!;rw[_t,_bE,_ay,_aZ];lia))
end
end HT
namespace L2
abbrev TO:=St->Hp->(dm!->bW!)->g!
def PO(X:Cx)(e:sf!)(t:TO):g!:= ∀(ae:List (Addr×Obj))(s:Shared)(O:St)(H:Hp)(Q:Option Int->Hp->Prop),N!->t O H Q-> bR! (evalPart e az!) (λu s'=>∃o H',cQ! H' s'/\og! u o/\Q o H') s
def zoO:TO:=λ_ H Q=>Q a! H
def ztd(t:TE):TO:=li! O H (hO! (∃i,x=U!/\Q h7! H1))
section
variable {X:Cx}{e:Expr}{te:TE}{lo hi:sf!}{tl th:TO}{pos p2:Pos}
theorem zhC:PO X a! zoO:=by exact iP! (_m ⟨a!,H,I,ab!,h⟩)
theorem zom(h:W! e te):PO X l! (ztd te):=by
 refine λae s O H Q I hw=>thn (h ae s O H _ I hw) λu s1 ⟨x,H1,I1,r1,q1⟩=>?_;obtain⟨i,rfl,q⟩:=q1;obtain⟨t,rfl⟩:=r1;exact⟨h7!,H1,I1,ci! i,q⟩
def SlR(X:Cx)(r:V->dm!->dm!->Hp->eU!):g!:= ∀(ae:List (Addr×Obj))(s:Shared)(O:St)(H:Hp)(x:V)(v vl vu:Value)(lo hi:Option Int)(sl:Addr)(Q:VK),N!->wQ x v->r6! vl vu ab!->og! vl lo->og! vu hi->r x lo hi H Q-> ∃T id,typeLookup kD! "__getitem__"=d3! (h4! id)/\pp! v T/\bR! (getItem v (y! sl)) (EP X ae O Q) s
theorem SlR.or(h:SlR X r)(h':SlR X r'):SlR X (qB! (r x lo hi H Q\/r' x lo hi H Q)):=by
 intro ae s O H x v vl vu lo hi sl Q I rx hs pl pu q;rcases q with q | q;·exact h ae s O H x v vl vu lo hi sl Q I rx hs pl pu q
 ·exact h' ae s O H x v vl vu lo hi sl Q I rx hs pl pu q
def tSl(r:V->dm!->dm!->Hp->eU!)(te:TE)(tl th:TO):TE:=gS! (te O H (hO! (tl O H1 λl H2=>th O H2 λu H3=>r x l u H3 Q)))
theorem zeG(hr:SlR X r)(he:W! e te)(hl:PO X lo tl)(hu:PO X hi th):W! (mK! e (.Slice lo hi a! p2)) (tSl r te tl th):=by
 intro ae s O H Q I h;refine Subscript_ (thn (he ae s O H _ I h) λv s1 ⟨x,H1,I1,r1,q1⟩=>(wpAny_Slice (thn (hl ae s1 O H1 _ I1 q1) λvl s2 ⟨l,H2,I2,pl,q2⟩=>thn (hu ae s2 O H2 _ I2 q2) λvu s3 ⟨u,H3,I3,pu,q3⟩=>(_m ?_))));have I4:cQ! H3 ({s3 with heap:=s3.heap.push {cls:=ar! "slice",data:=eY! #[vl,vu,ab!]}}):=I3.kept λb ob q=>_i _ q;obtain⟨T,id,hT,ht,hg⟩:=hr ae {s3 with heap:=s3.heap.push {cls:=ar! "slice",data:=eY! #[vl,vu,ab!]}} O H3 x v vl vu l u s3.heap.objs.size Q I4 r1 (Heap.IsSliceOf.new ..) pl pu q3;exact tail_any ht hT hg (by with_unfolding_all rfl)
noncomputable def zpf(xs:aG!)(lo hi:dm!):aG!:=(lB! (iq! 0 lo)).take (iq! w! hi-iq! 0 lo)
theorem z6v(xs:aG!)(lo hi:dm!):t! (zpf xs lo hi)<=w!:=by
 unfold zpf;rw[_bE,_ay];lia
def zwM(K:W.Frag):V->dm!->dm!->Hp->eU!:=qB! (∃a xs,x=ag!/\SqT K H a xs/\ ¬ (iq! 0 lo=0/\iq! w! hi=w!)/\∀p,gN!->Q cg! (fV! (n! (zpf xs lo hi))))
theorem zql:SlR X (zwM X.K):=by
 intro ae s O H x v vl vu lo hi sl Q I rx hs pl pu h;obtain⟨a,xs,rfl,hx,hw,q⟩:=h;cases rx;obtain⟨af,r,ht,hz⟩:=lG! hx;have ap:iS!=w!:=r.length.symm;refine⟨c2!,_,_R.lookup,lL!,(HT.z4a ht hs pl pu (by rw[ap];exact hw) ?_ (by rw[ap];exact hz))⟩;rw[ap];refine br! f4! _ (I.laid (λb ob q=>_i _ q) am! ?_) (q _ (mF! _));exact⟨_G (z6v xs lo hi) hz,_,(oi! (iq! 0 lo)).take (iq! w! hi-iq! 0 lo),zgm.new _ _⟩
def ztg(K:W.Frag):R2:=hQ! (∃a b xs ys,x=ag!/\y=y! b/\SqT K H a xs/\SqT K H b ys/\a4! xs/\w!+cO!<=aY!/\ (ys=[]->Q ag! H)/\(a4! ys->∀p,gN!->Q cg! (fV! (n! (xs++ys)))))
theorem xt.nil_iff(r:jo!):us=[] ↔ xs=[]:=by cases r with
 | nil=>decide | cons _ _=>simp
theorem znC:gG! .Add (ztg X.K):=by
 intro ae s O H x y v u Q I rx ry h;obtain⟨a,b,xs,ys,rfl,rfl,ha,hb,hx,hz,q1,q2⟩:=h;cases rx;cases ry;obtain⟨af,r1,p1,_⟩:=lG! ha;obtain⟨cT,r2,p2,_⟩:=lG! hb;refine HT.zon p1 p2 (λz=>hx (r1.nil_iff.mp z)) (λz=>br! ag! H I (q1 (r2.nil_iff.mp z))) (λz=>br! f4! _ (I.laid (λb ob q=>_i _ q) am! ?_) (q2 (λw=>z (r2.nil_iff.mpr w)) _ (mF! _))) (by rw[<- r1.length,<- r2.length];exact hz);exact⟨by rw[_as];exact hz,_,r1.append r2,zgm.new _ _⟩
end
noncomputable def ixN(n:Nat)(i:Int):bq! Nat:=an! (0<=i) (ir! (i<n) (b! kU!)) (ir! (-(j! n)<=i) (b! (i+n).toNat))
noncomputable def atI{α:bD!}(xs:et!)(i:Int):bq! α:=D! (k5! i) (λj=>xs[j]?)
theorem zhl(h:ixN n i=b! j):seqIndex? i n=b! j/\j<n/\-(j! n)<=i/\i<n:=by
 unfold ixN at h;by_cases h0:0<=i
 ·rw[_g h0]at h;by_cases h1:i<n
  ·rw[_g h1]at h;have e := _p h;exact⟨by rw[seqIndex_of h0 h1,e],by lia,by lia,h1⟩
  ·rw[_o h1]at h;cases h
 ·rw[_o h0]at h;by_cases h1:-n<=i
  ·rw[_g h1]at h;have e := _p h;exact⟨by rw[seqIndex_neg (by lia) h1,e],by lia,h1,by lia⟩
  ·rw[_o h1]at h;cases h
theorem zh0{v:α}(h:atI xs i=bV!):∃j,seqIndex? i w!=b! j/\G! xs j v/\j<w!/\-(j! w!)<=i/\i<w!:=by
 unfold atI at h;cases e:k5! i with
 | none=>rw[e]at h;cases h | some j=>
  rw[e]at h;obtain⟨h1,h2,h3,h4⟩:=zhl e;exact⟨j,h1,h,h2,h3,h4⟩
def zdA(b:Expr):g!:=∀o i,subscripted b q! o i=operate [o,i] (getItem o i)
def IxR(X:Cx)(r:R2):g!:= ∀(bi slice:Expr)(ae:List (Addr×Obj))(s:Shared)(O:St)(H:Hp)(x y:V)(v u:Value)(Q:VK),N!->wQ x v->wQ y u->r x y H Q-> subscripted slice q! v u=operate [v,u] (getItem v u)->bR! (subscriptTail bi slice v u) (EP X ae O Q) s
def MtR(X:Cx) (id:String) (r:V->aG!->Hp->eU!):g!:= ∀(ae:List (Addr×Obj)) (s:Shared) (O:St) (H:Hp) (x:V) (xs:List V) (v:Value) (us:List Value) (Q:VK),N!->wQ x v->jo!->r x xs H Q-> bR! (p8! id (v::us)) (EP X ae O Q) s
section
variable {X:Cx}{a b:Expr}{ta tb:TE}{pos:Pos}
theorem IxR.or(h:IxR X r)(h':IxR X r'):IxR X (hQ! (r x y H Q\/r' x y H Q)):=by
 intro bi slice ae s O H x y v u Q I rx ry q hs;rcases q with q | q;·exact h bi slice ae s O H x y v u Q I rx ry q hs
 ·exact h' bi slice ae s O H x y v u Q I rx ry q hs
theorem zqq(hr:IxR X r)(ha:W! a ta)(hb:W! b tb)(hs:zdA b):W! (mK! a b) (tOp r ta tb):=iP! (Subscript_ (zuN ha hb I h λv u s2 x y H2 I2 rx ry q=>hr a b ae s2 O H2 x y v u Q I2 rx ry q (hs _ _)))
def zwH(K:W.Frag):R2:=hQ! (∃p xs i v,x=cg!/\y=U!/\SqL K H p xs/\atI xs i=bV!/\Q v H)
def zvX(K:W.Frag):R2:=hQ! (∃p xs i v,x=cg!/\y=U!/\SqT K H p xs/\atI xs i=bV!/\Q v H)
theorem znO:IxR X (zwH X.K):=by
 intro bi slice ae s O H x y v u Q I rx ry h hs;obtain⟨p,xs,i,z,rfl,rfl,hq,he,q⟩:=h;cases rx;obtain⟨t,rfl⟩:=ry;obtain⟨af,r,pl,hz⟩:=mh!;obtain⟨j,h1,h2,h3,h4,h5⟩:=zh0 he;obtain⟨w,ew,eE⟩:=r.get h2;have hl:=r.length;have hn:=zeu;have fin:EP X ae O Q w s:=⟨z,H,I,eE,q⟩;by_cases h0:0<=i
 ·have hj:kU!=j:=by
   rw[seqIndex_of h0 h5]at h1;exact _p h1
  exact item_listR qC! h0 (by lia) (by rw[hj];simpa using ew) fin hs
 ·have hj:fI! (i+j! iS!)=j:=by
   rw[seqIndex_neg (by lia) h4]at h1;rw[_t,<- hl];exact _p h1
  exact _b3 pl.isList.typeIs slot_list_getitem.lookup (wpAny_getItem_list_neg qC! (by lia) (by rw[_t]<;>lia) (by lia) (by rw[hj];simpa using ew) (g4! fin)) hs
theorem zqT:IxR X (zvX X.K):=by
 intro bi slice ae s O H x y v u Q I rx ry h hs;obtain⟨p,xs,i,z,rfl,rfl,hq,he,q⟩:=h;cases rx;obtain⟨t,rfl⟩:=ry;obtain⟨af,r,pl,hz⟩:=nI!;obtain⟨j,h1,h2,h3,h4,h5⟩:=zh0 he;obtain⟨w,ew,eE⟩:=r.get h2;have hn:=zeu;exact _b3 pl.typeIs slot_tuple_getitem.lookup (getItem_tuple pl (by lia) (by lia) (by rw[_t,<- r.length];exact h1) (by simpa using ew) (g4! ⟨z,H,I,eE,q⟩)) hs
theorem zfB(af:bZ!) (n j:Nat) (u:Value):Obj.mapSeq (·.setIfInBounds j u) {cls:=dk!,data:=oR! n}={cls:=dk!,data:=.seq (no! (af.set j u)) n}:=by simp[Obj.mapSeq]
theorem Inv.lst{ae:dp!}{O:St}{H:Hp}{s:Shared}{p:Addr}{xs:aG!}(I:N!)(h:H p=b! bx!): ∃(af:List Value)(n:Nat),xt xs af/\f3! p ({cls:=dk!,data:=oR! n})/\w!<=aY!:=by
 obtain⟨z,af,n,r,e⟩:=g9! p h;exact⟨af,n,r,e,z⟩
theorem Inv.lstUpd{O:St} {af aP:bZ!} (I:N!) (h:H p=b! bx!) (ho:f3! p ({cls:=dk!,data:=oR! n})) (hf:f {cls:=dk!,data:=oR! n}={cls:=dk!,data:=.seq aP.toArray n'}) (r:xt ys aP) (hz:oT!) (t:Nat): cQ! (fV! hz!) ({s with heap:=sW! p f,toks:=t}):=by
 have e:fi! (sW! p f) p ({cls:=dk!,data:=.seq aP.toArray n'}):=by rw[Heap.get?_update_self f ho (by rw[hf]<;>rfl),hf]
 exact I.write (by rw[h];trivial) c7! (λb u hb q=>aJ! (Heap.get?_update_other _ _ (_bT hb)) q) (dD! _) ⟨hz,aP,n',r,e⟩
def zsR:V->V->V->Hp->bW!->g!:=λo i v H Q=>∃p xs k j,o=cg!/\i=c! k/\H p=b! bx!/\k5! k=b! j/\Q (fV! (X! (iL! j v)))
theorem set_list:zvL X zsR:=by
 intro ae s O H o i v ov iv u Q I ro ri rv h;obtain⟨p,xs,k,j,rfl,rfl,hp,hj,q⟩:=h;cases ro;obtain⟨t,rfl⟩:=ri;obtain⟨af,n,r,ho,hz⟩:=I.lst hp;obtain⟨h1,h2,h3,h4⟩:=zhl hj;have hl:=r.length;have hn:=zeu;have I' := I.lstUpd hp ho (zfB af n j u) (r.set rv j) (by rw[_cx];exact hz) fZ!;by_cases h0:0<=k
 ·have hk:d4!=j:=by
   rw[seqIndex_of h0 h4]at h1;exact _p h1
  exact W.ki_setAt ho h0 (by lia) (by rw[_t,<- hl];exact h4) (by rw[hk];exact bQ! I' q)
 ·have hk:fI! (k+iS!)=j:=by
   rw[seqIndex_neg (by lia) h3]at h1;rw[_t,<- hl];exact _p h1
  exact W.ki_setBack ho (by lia) (by rw[_t,<- hl];exact h3) (by lia) (by rw[hk];exact bQ! I' q)
theorem zc3(lo hi:dm!)(n:Nat):(sliceBounds lo hi a! n).1=aa! (oh! n 0 lo)/\(sliceBounds lo hi a! n).2.1=j! (oh! n n hi)/\(sliceBounds lo hi a! n).2.2=1:=by
 refine a3! ?_ ?_ rfl;·cases lo with
  | none=>rfl | some i=>
   simp only[sliceBounds,HT.sIx,_du,_v];by_cases h:i<0;·simp only[h,_v]<;>lia
   ·simp only[h,_aV]<;>lia
 ·cases hi with
  | none=>rfl | some i=>
   simp only[sliceBounds,HT.sIx,_du,_v];by_cases h:i<0;·simp only[h,_v]<;>lia
   ·simp only[h,_aV]<;>lia
theorem z9T(af:bZ!)(lo hi:dm!):slicePick fE! lo hi a!=no! ((af.drop (oh! kd! 0 lo)).take (oh! kd! kd! hi-oh! kd! 0 lo)):=by
 obtain⟨h1,h2,h3⟩:=zc3 lo hi iS!;unfold slicePick;rw[h1,h2,h3];simp only[sliceRange_one,pick_run,_t]<;>rfl
def zwm(K:W.Frag):V->dm!->dm!->Hp->eU!:=qB! (∃a xs,x=ag!/\SqL K H a xs/\∀p,gN!->Q cg! (fV! (X! (zpf xs lo hi))))
theorem zn5:SlR X (zwm X.K):=by
 intro ae s O H x v vl vu lo hi sl Q I rx hs pl pu h;obtain⟨a,xs,rfl,hx,q⟩:=h;cases rx;obtain⟨af,r,ht,hz⟩:=I.list hx;have ap:=r.length;refine⟨en!,_,slot_list_getitem.lookup,ht.isList.typeIs,(wpAny_getItem_list_slice ht.isList hs pl pu ab! (by decide) ?_ (by rw[_t]<;>lia))⟩;rw[z9T,<- ap];refine br! f4! _ (I.laid (λb ob q=>_i _ q) am! ?_) (q _ (mF! _));exact⟨_G (z6v xs lo hi) hz,_,0,(oi! (iq! 0 lo)).take (iq! w! hi-iq! 0 lo),hh!⟩
noncomputable def z8y:eB! V
 | .non=>true | .bl _=>true | .int _=>true | .str _=>true | _=>false
noncomputable def eqV:V->eB! V
 | .non,.non=>true | .bl a,.bl b=>a==b | .bl a,.int b=>(an! a 1 0)==b | .int a,.bl b=>a==(an! b 1 0) | .int a,.int b=>a==b | .str a,.str b=>a==b | _,_=>false
theorem zqo(ry:wQ y u)(rx:wQ x v)(fy:z8y y=d!)(fx:z8y x=d!):SeqAt.EqAt A s u v (eqV y x):=by cases y with
 | non=>
  cases ry;cases x with
  | non=>cases rx;exact SeqAt.EqAt.same _ | bl b=>cases rx;exact SeqAt.EqAt.none_bool b | int b=>obtain⟨t,rfl⟩:=rx;exact SeqAt.EqAt.none_int b t | str b=>obtain⟨t,rfl⟩:=rx;exact SeqAt.EqAt.none_str b t | _=>exact rN! fx
 | bl a=>
  cases ry;cases x with
  | non=>cases rx;exact SeqAt.EqAt.bool_none a | bl b=>cases rx;exact SeqAt.EqAt.bool_bool a b | int b=>obtain⟨t,rfl⟩:=rx;exact SeqAt.EqAt.bool_int a b t | str b=>obtain⟨t,rfl⟩:=rx;exact SeqAt.EqAt.bool_str a b t | _=>exact rN! fx
 | int a=>
  obtain⟨t',rfl⟩:=ry;cases x with
  | non=>cases rx;exact SeqAt.EqAt.int_none a t' | bl b=>cases rx;exact SeqAt.EqAt.int_bool a t' b | int b=>obtain⟨t,rfl⟩:=rx;exact SeqAt.EqAt.int_int a t' b t | str b=>obtain⟨t,rfl⟩:=rx;exact SeqAt.EqAt.int_str a t' b t | _=>exact rN! fx
 | str a=>
  obtain⟨t',rfl⟩:=ry;cases x with
  | non=>cases rx;exact SeqAt.EqAt.str_none a t' | bl b=>cases rx;exact SeqAt.EqAt.str_bool a t' b | int b=>obtain⟨t,rfl⟩:=rx;exact SeqAt.EqAt.str_int a t' b t | str b=>obtain⟨t,rfl⟩:=rx;exact SeqAt.EqAt.str_str a t' b t | _=>exact rN! fx
 | _=>exact rN! fy
noncomputable def eqU(x:V)(u:Value):Bool:=match u with
 | .none=>eqV aA! x | .bool b=>eqV (.bl b) x | .int i _=>eqV U! x | .str z _=>eqV (aD! z) x | _=>false
theorem zlU(r:wQ y u)(f:z8y y=d!):eqU x u=eqV y x:=by cases y with
 | non=>cases r;rfl | bl b=>cases r;rfl | int i=>obtain⟨t,rfl⟩:=r;rfl | str z=>obtain⟨t,rfl⟩:=r;rfl | _=>exact rN! f
theorem z7c: ∀{xs:List V}{us:List Value},jo!->oj! z8y=d!->us.any (eqU x)=xs.any λy=>eqV y x
 | _,_,.nil,_=>rfl | y::xs,u::us,.cons r t,f=>by
  rw[_cm,_S]at f;rw[List.any_cons,List.any_cons,zlU r f.1,z7c t f.2]
theorem z2R(rx:wQ x v)(fx:z8y x=d!):∀{xs:List V}{us:List Value},jo!->oj! z8y=d!->∀u∈us,SeqAt.EqAt A s u v (eqU x u)
 | _,_,.nil,_=>λu hu=>by cases hu | y::xs,u::us,.cons r t,f=>λu' hu=>by
  rw[_cm,_S]at f;rcases ep! hu with rfl | hu;·rw[zlU r f.1];exact zqo r rx f.1 fx
  ·exact z2R rx fx t f.2 u' hu
noncomputable def inV(x:V)(xs:aG!):Bool:=xs.any λy=>eqV y x
def rIn(K:W.Frag)(bY:Bool):R2:=hQ! (∃p xs,y=cg!/\(SqL K H p xs\/SqT K H p xs)/\z8y x=d!/\oj! z8y=d!/\Q (.bl (an! bY (! inV x xs) (inV x xs))) H)
theorem ziH:d0! .In (rIn X.K q!):=by
 intro ae s O H x y v u Q I rx ry h;obtain⟨p,xs,rfl,hq,fx,fs,q⟩:=h;cases ry;rcases hq with hq | hq
 ·obtain⟨af,r,pl,hz⟩:=mh!;refine SeqAt.in_listAt (eqU x) qC! (λw hw=>z2R rx fx r fs w (by simpa using hw)) (br! (.bl _) H I ?_);rw[show sC! x=af.any (eqU x) by simp,z7c r fs];exact q
 ·obtain⟨af,r,pl,hz⟩:=nI!;refine SeqAt.in_tupleAt (eqU x) pl (λw hw=>z2R rx fx r fs w (by simpa using hw)) (br! (.bl _) H I ?_);rw[show sC! x=af.any (eqU x) by simp,z7c r fs];exact q
theorem zb3:d0! .NotIn (rIn X.K d!):=by
 intro ae s O H x y v u Q I rx ry h;obtain⟨p,xs,rfl,hq,fx,fs,q⟩:=h;cases ry;rcases hq with hq | hq
 ·obtain⟨af,r,pl,hz⟩:=mh!;refine SeqAt.notIn_listAt (eqU x) qC! (λw hw=>z2R rx fx r fs w (by simpa using hw)) (br! (.bl _) H I ?_);rw[show sC! x=af.any (eqU x) by simp,z7c r fs];exact q
 ·obtain⟨af,r,pl,hz⟩:=nI!;refine SeqAt.notIn_tupleAt (eqU x) pl (λw hw=>z2R rx fx r fs w (by simpa using hw)) (br! (.bl _) H I ?_);rw[show sC! x=af.any (eqU x) by simp,z7c r fs];exact q
theorem zbD:mk! X "len" (∃p ys,xs=[cg!]/\(SqL X.K H p ys\/SqT X.K H p ys)/\Q (c! cO!) H):=by
 intro ae s O H xs us Q I r h;obtain⟨p,ys,rfl,hq,q⟩:=h;obtain⟨u,rfl,rx⟩:=lj!;cases rx;have hn:=zeu;rcases hq with hq | hq
 ·obtain⟨af,r',pl,hz⟩:=mh!;have ap:=r'.length;exact Calls.call_len_list qC! (by simp only[_t]<;>lia) ⟨c! cO!,H,iz!,⟨fZ!+1,by rw[_t,ap]⟩,q⟩
 ·obtain⟨af,r',pl,hz⟩:=nI!;have ap:=r'.length;exact len_tuple pl (by simp only[_t]<;>lia) ⟨c! cO!,H,iz!,⟨fZ!+1,by rw[_t,ap]⟩,q⟩
theorem zcH:wo X dk! (λxs H Q=>∃p ys,xs=[cg!]/\(SqL X.K H p ys\/SqT X.K H p ys)/\∀l,H l=a!->Q eT! (cf! l hz!)):=by
 intro ae s O H xs us Q I r h;obtain⟨p,ys,rfl,hq,q⟩:=h;obtain⟨u,rfl,rx⟩:=lj!;cases rx;have fin:∀(af:List Value),xt ys af->oT!->∀(h':Heap) (c':Nat),(∀b o',f3! b o'->gw! b o')-> gw! at! ({cls:=dk!,dict:=none,data:=oR! c',slots:=#[]})->EP X ae O Q f4! {s with heap:=h'}:=λaf r' hz h' c' kp e=> br! f4! _ (I.laid kp am! (show kC aV! X.w _ h' _ hz! from⟨hz,af,c',r',e⟩)) (q _ (mF! _));rcases hq with hq | hq
 ·obtain⟨af,r',pl,hz⟩:=mh!;have ap:=r'.length;obtain⟨o,ho,hc,n,hd⟩:=pl.isList;exact call_list_seq p c7! ho hc hd (λh' c' kp e=>fin af r' hz h' c' kp e) (by simp only[_t]<;>lia)
 ·obtain⟨af,r',pl,hz⟩:=nI!;have ap:=r'.length;obtain⟨o,ho,hc,n,hd⟩:=pl;exact call_list_seq p (T! rfl) ho hc hd (λh' c' kp e=>fin af r' hz h' c' kp e) (by simp only[_t]<;>lia)
theorem zaF:wo X dR! (λxs H Q=>∃p ys,xs=[cg!]/\((SqL X.K H p ys/\∀l,H l=a!->Q eT! (cf! l (n! ys)))\/(SqT X.K H p ys/\Q cg! H))):=by
 intro ae s O H xs us Q I r h;obtain⟨p,ys,rfl,h⟩:=h;obtain⟨u,rfl,rx⟩:=lj!;cases rx;rcases h with⟨hq,q⟩ | ⟨hq,q⟩
 ·obtain⟨af,r',pl,hz⟩:=mh!;have ap:=r'.length;refine call_tuple_list qC! (λh' kp=>?_) (by simp only[_t]<;>lia);have I1 := I.kept (t':=s.toks) kp;exact br! (y! h'.objs.size) _ (I1.laid (t':=s.toks) (mj! _ e) am! (show kC aV! X.w _ _ _ (n! ys) from⟨hz,af,r',zgm.new _ _⟩)) (q _ (sS! am!))
 ·obtain⟨af,r',pl,hz⟩:=nI!;exact call_tuple_same pl (br! cg! H I q)
def tyV(K:W.Frag)(T:String)(x:V)(H:Hp):g!:=match x with
 | .str _=>T=go! | .int _=>T=eE! | .ref p=>(T=en!/\∃xs,SqL K H p xs)\/(T=c2!/\∃o,m8! p=b! o/\gp!=dR!/\o.dict=a!)\/ (T=nP!/\((∃ah,H p=b! hd!)\/∃ah,H p=b! (.dT ah)))\/(T="set"/\∃S n,H p=b! (.set S n)) | _=>False
theorem zqc{O:St} (I:N!)(r:wQ x v)(ty:tyV X.K T x H): pp! v T/\∀a,v=ag!->∃ob,f3! a ob/\ob.dict=a!:=by cases x with
 | str z=>
  obtain⟨t,rfl⟩:=r;cases (ty);exact⟨typeIs_str s z t,λ_ e=>nomatch e⟩ | int i=>
  obtain⟨t,rfl⟩:=r;cases (ty);exact⟨_cd s i t,λ_ e=>nomatch e⟩ | ref p=>
  cases r;rcases ty with⟨rfl,xs,hq⟩ | ⟨rfl,o,hk,hc,hd⟩ | ⟨rfl,hk⟩ | ⟨rfl,S,n,hk⟩
  ·obtain⟨af,_,pl,_⟩:=mh!;refine⟨pl.isList.typeIs,λa e=>?_⟩;cases e;obtain⟨o,n,e,c,hd,_⟩:=pl;exact cB! e hd
  ·refine⟨cB! (I.kIn p o hk) hc,λa e=>?_⟩;cases e;exact cB! (I.kIn _ o hk) hd
  ·obtain⟨o,e,ex⟩:=(show ∃o,dx! p/\o.ExactDict from by
    rcases hk with⟨ah,hk⟩ | ⟨ah,hk⟩
    ·obtain⟨_,_,_,_,o,_,_,e,ex,_⟩:=g9! p hk;exact cB! e ex
    ·obtain⟨_,_,_,_,o,_,_,e,ex,_⟩:=g9! p hk;exact cB! e ex);refine⟨cB! e ex.1,λa e2=>?_⟩;cases e2;exact cB! e ex.2.1
  ·obtain⟨o,_,_,_,e,ex,_⟩:=g9! p hk;refine⟨cB! e ex.1,λa e2=>?_⟩;cases e2;exact cB! e ex.2.1 | _=>exact mt! ty
def tBM(K:W.Frag)(T:String)(r:V->aG!->Hp->eU!)(to:TE)(t:TA):TE:=gS! (to O H (hO! (tyV K T x H1/\t O H1 λxs H2=>r x xs H2 Q)))
variable {o e:Expr}{es:aI!}{to:TE}{t:TA}{name:Str}{ao ak:Pos}{T id:String}{r:V->aG!->Hp->eU!}
theorem zoN(pa:PlainAttrs T) (slot:Slot T iQ! id) (gK:typeOf (.builtin id)=d3! (ar! "method_descriptor")) (hm:MtR X id r) (ho:W! o to) (ha:PA X (e::es) t) (am:B! (l7! o iQ! gI!=gI!)) (aH:dq! (hD! (hX! ak (e::es)) (! x.1)&&hD! (nF! ak [] az!) (gq! x.1) && bl! (t! (e::es)+t! ([]:g2!)+(nG! ([]:g2!) 0 1)<30))) (ai:dq! p6!) (hs:B! (aw! (e::es)=d1!::iD!)) (aw:B! ((hX! ak es).any (·.1)=q!)): W! (fJ! (mN! o iQ!) (e::es) [] ak) (tBM X.K T r to t):=by
 refine iP! (_b4 am aH ai rfl (thn (ho ae s O H _ I h) λv s1 ⟨x,H1,I1,r1,ty,q1⟩=>?_));obtain⟨h1,h2⟩:=zqc I1 r1 ty;refine⟨T,id,pa,slot,gK,h1,h2,?_⟩;have hA:=ha ak ae s1 O H1 _ I1 q1;rw[hs]at hA ⊢;exact _b5 (by show (q!||(hX! ak es).any (·.1))=q!;rw[aw]<;>rfl) (_bz (thn hA λus s2 ⟨vs,H2,I2,r2,q2⟩=>hm ae s2 O H2 x vs v us Q I2 r1 r2 q2))
end
def MtM(X:Cx) (id:String) (r:V->aG!->Hp->eU!):g!:= ∀(ae:List (Addr×Obj)) (s:Shared) (O:St) (H:Hp) (x:V) (xs:List V) (v:Value) (us:List Value) (Q:VK),N!->wQ x v->jo!->r x xs H Q-> bR! (p8! id (v::us)) (EP X ae O Q) s
theorem xt.one:∀{x:V}{us:List Value},kB! [x]->∃u,us=[u]/\wQ x u | _,_,.cons r .nil=>aH! _ r
theorem xt.rep(h:jo!):∀k:Nat,xt (hW! k xs) (hW! k us)
 | 0=>cD! | k+1=>xt.append h (xt.rep h k)
theorem foldl_rep(af:bZ!):∀(k:Nat)(acc:List Value), List.foldl (λx1 x2=>x1++x2) acc.toArray (mv! k fE!)=no! (acc++hW! k af)
 | 0,acc=>by simp | k+1,acc=>by rw[<- (show (acc++af)++hW! k af=acc++hW! (k+1) af from by rw[_aR,_bw,_b6]),<- foldl_rep af k (acc++af),<- (show acc.toArray++fE!=no! (acc++af) from by simp),_aR,_a7]
section
variable {X:Cx}{ae:dp!}{O:St}{H:Hp}{s:Shared}{l b:Addr}{xs ys zs:aG!}
theorem Inv.lset{af aP:bZ!} (I:N!) (hH:H l=b! bx!) (e:f3! l ({cls:=dk!,data:=oR! n})) (hf:f fE!=aP.toArray) (hv:xt ys aP) (hz:oT!): cQ! (cf! l hz!) ({s with heap:=l2! l f,toks:=t'}):=by
 have q:=PySem.IsL.update e f;rw[hf]at q;exact I.write (by rw[hH];exact trivial) c7! (λb' u hb hu=>aJ! (Heap.get?_update_other L! (sT! f) (_bT hb)) hu) (f9! q) ⟨hz,aP,_,hv,q⟩
theorem Inv.lnew(I:N!) (hv:xt ys af) (hz:oT!): cQ! (cf! at! hz!) ({s with heap:=ij! ({cls:=dk!,data:=.seq fE!}),toks:=t'}):= I.laid (λ_ _ q=>_i _ q) am! ⟨hz,af,0,hv,hh!⟩
theorem Inv.fresh(I:N!):H at!=a!:=mF! _
theorem Inv.lstM(I:N!)(hH:H l=b! bx!):w!<=aY!/\∃(af:List Value)(n:Nat),xt xs af/\w!=kd!/\f3! l ({cls:=dk!,data:=oR! n}):=by
 obtain⟨z,af,n,r,e⟩:=g9! l hH;exact⟨z,af,n,r,aK!,e⟩
theorem zl5(h:n<=aY!):Builtin.List.listTooLong n=q!:=_U (by lia)
end
section
variable {X:Cx}
def zog:V->aG!->Hp->eU!:=λx vs H Q=>∃l xs y,x=eT!/\vs=[y]/\H l=b! bx!/\w!<aY!/\Q aA! (cf! l (X! (xs++[y])))
theorem zi4:MtM X "list.append" zog:=by
 intro ae s O H x vs v us Q I rx rv h;obtain⟨l,xs,y,rfl,rfl,hH,hz,q⟩:=h;cases rx;obtain⟨u,rfl,ru⟩:=rv.one;obtain⟨z,af,n,r,hl,e⟩:=I.lstM hH;refine _bh F.slot_list_append (ce! e) F.entry_list_append (F.args_list_append_2 _ _) (PySem.list_append l fE! n u (by rw[_t];lia)) ⟨e,?_⟩;refine br! aA! _ (I.lset hH e (by simp) (r.append (eX! ru cD!)) ?_) q;rw[_as,List.length_singleton];lia
def zwb:R2:=hQ! (∃l k xs,x=eT!/\y=c! k/\Rd H l bx!/\-(2 ^ 63)<=k/\k<2 ^ 63/\w!*d4!<=aY!/\ ∀p,gN!->Q cg! (fV! (X! (hW! d4! xs))))
theorem len_rep{α:bD!}(xs:et!)(k:Nat):(mv! k xs).flatten.length=k*w!:=by induction k with
 | zero=>simp | succ k ih=>rw[_aR,_bw,_as,ih,Nat.succ_mul,Nat.add_comm]
theorem zlR:nO! zwb:=by
 intro ae s O H x y v u Q I rx ry h;obtain⟨l,k,xs,rfl,rfl,hH,h1,h2,hz,q⟩:=h;cases rx;obtain⟨t,rfl⟩:=ry;obtain⟨z,af,n,r,e⟩:=hH.ok eZ!;have ap:iS!*d4!<=aY!:=by rw[_t,<- (show w!=kd! from by have:=r.length;lia)];exact hz
 have gL:¬ (! Builtin.List.listFitsIndex k)=d!:=by
  rw[fitsIndex_both h1 h2];exact _aB
 refine _bI (by decide) (ce! e) (λs'=>_cd s' k t) noFill_list_mul F.fills_int_mul _bq repeat_list _dv.lookup (_bh _bq (_cd s k t) _dw (_c9 _ _) (int___rmul___int_list k t l fE! n) ⟨e,rfl,ce! e,_bh F.slot_list_mul (ce! e) F.entry_list_mul (F.args_list_mul_2 _ _) (AutoListH.list___mul___list_int_3 l fE! n k t gL (by
  have:aY!<=(2 ^ 63-1) / 8:=by decide
  lia) (by
  rw[zl5 ap];exact _aB)) ⟨e,?_⟩⟩);rw[(show List.foldl (λx1 x2=>x1++x2) #[] (mv! (aF! af.toArray.isEmpty 0 d4!) fE!)=(mv! d4! af).flatten.toArray from by
  have f0 := λm=>by
   have:=foldl_rep af m [];rw[_aw]at this;exact this
  rw[f0];cases af with
  | nil=>simp | cons a r'=>rw[_o (by simp)])];exact⟨y! _,_,I.lnew (r.rep d4!) (by rw[len_rep,_dO];exact hz),rfl,q _ I.fresh⟩
end
end L2
namespace Att
open PySem.W PySem.Calls
theorem z7Q: ∀(ns:List Int)(vs:List Value),WellAll P h vs (pq! WData.int)->rL! vs:=by
 intro ns;induction ns with
 | nil=>
  intro vs w;cases w;exact cD! | cons n ns ih=>
  intro vs w;cases w with | cons a b=>
   cases a;exact .cons _ _ (ih _ b)
theorem ziZ{l:OpenLaw} (hn:l.most=b! n) (bZ:l.row.toRowW.claim.pre kb!=d!) (gM:WellAll P h eN kb!): ∃a vs ns,eN=[lA! a]/\kb!=[WData.list (pq! WData.int)]/\eK! a ({cls:=dk!,data:=.seq e0!})/\rL! vs/\e1!<=n:=by
 have hc:l.pre.holds [] {args:=args}=d!:=(pre_splitW bZ).2;obtain⟨d,r,rfl,h1,h2⟩:=hasAllW_cons ((pre_splitW bZ).1);obtain rfl:=hasAllW_nil h2;obtain⟨xs,rfl,h3⟩:=hasW_list h1;obtain⟨ns,rfl⟩:=items_int h3;cases gM with | cons w1 w2=>
  cases w2;cases w1 with | list ho gN=>exact⟨_,_,ns,rfl,rfl,ho,z7Q ns _ gN,(by
  have h4:(WTm.not (.lt (.lit (c! n)) (.len (.arg 0)))).holds [] {args:=[.list (pq! .int)]}=d!:=by
   have h4:=(holds_andW hc).1;rw[hn]at h4;exact h4
  have h5:=condW_of h4 (w_not (w_lt w_lit (w_len_list (w_arg rfl))));(simp at h5;lia))⟩
theorem zi6(l:OpenLaw)(args:em! WData):l.row.toRowW.claim.post kb! (.bool d!) kb!=d!:= postW_of ((by rfl)) ((w_eq_bool (w_res rfl) w_lit)) rfl
theorem zdl{l:OpenLaw} (hn:l.most=b! n)(gO:d.params.defaults=[]) (call:∀(w:World)(s₀ s₁:Shared)(mg mb:Str->Option Value)(fa:Addr)(o:Obj)(pm cd aE:Value)(a:Addr)(vs:List Value)(ns:List Int), Ground q ok! [] XP w s₀ mg mb lM!->YP w lM!-> qD! fa=b! o->ih!=.func (docDef d.name d.params d.body d.scope pm cd aE)->s₁.heap.CodeRec cd d.name->fx! d.name (y! fa)-> qD! a=b! ({cls:=dk!,data:=.seq e0!})->rL! vs->e1!<=n->s₁.gens=#[]-> kT! (model l.prog w) qE! (.call (y! fa) (dT! [ag!])) (λr s'=>r=.ok (.ret (.bool d!))/\OldK lM! gR!/\qp!=s₁.os/\rv!) jE!): WalkO q ok! XP YP l.row.toRowW d [] (λf vs=>PySem.call f vs):=by
 intro w s₀ s₁ mg mb G Yy fa o pm cd aE dV kV ho hd bz hD cU hg args eN as bZ mq pO gM pP;obtain rfl:dV=ab!:=Dflts.none hD gO;obtain rfl:kV=ab!:=Dflts.noKw hD;obtain⟨a,vs,ns,rfl,rfl,dE,cF,ap⟩:=ziZ hn bZ gM;refine enter_call (_dK (call w s₀ jE! mg mb fa o pm cd aE a vs ns G Yy ho (fd_plain hd) bz cU dE cF ap hg) λr s' hq=>?_);obtain⟨rfl,h2,h3,h4⟩:=hq;exact⟨C! ⟨.bool d!,.bool d!,[],rfl,bk! rfl,.bool d!,zi6 l _,bk! ⟨List.Pairwise.nil,λ_ hm=>(nomatch hm)⟩⟩,h2,h3,h4⟩
section
variable {prog:Program}{w:World}{A:Around}{E:b1!}{s:Shared}{K:Frag}
noncomputable def ledger(h:Heap)(L d:Addr):dp!:=r5! jA! (λa=>an! (a=L\/a=d) a! ((qd! a).map λo=>(a,o)))
end
end Att
namespace L2
theorem zb1:∀{vs:List Value}{ns:List Int},rL! vs->xt hZ! vs
 | _,_,.nil=>cD! | _,_,.cons n t h=>eX! (cl! t) (zb1 h)
def zuD(H:Hp):g!:=∀b,fk!\/∃o xs,cY! (ec! bx!)
theorem zkD{P:Program}{w:World}{K:W.Frag}{mg mb:Str->aU!}{CX:CXT}{k:Nat}{fa a:Addr}{fd:FuncData}{x:Str}{sp:Sp}{s₁:Shared}{vs:bZ!}{ns:h!} (KX:K.In lM!)(i6:s₁.heap.Ns mp! mg)(hb:s₁.heap.Ns builtinsNs mb)(mw:∀x:Str,mc! x->mb x=lC! x)(gP:s₁.heap.NoLimit)(hg:s₁.gens=#[]) (ha:qD! a=b! ({cls:=dk!,data:=.seq e0!}))(hi:rL! vs)(hl:e1!<=aY!)(hr:z2G k qE!) (F:∀base:Heap,K.In R!->sB! mg->za7 P w K mg R! CX k fa fd [x] sp)(eP:∀(s:Shared)(u:Value),qx! s fd (dT! [u]) [(x,u)]) (cD:∀H:Hp,zuD H->SqL K H a hZ!->sp [ag!] H (λv _=>v=eQ!) (fH! nm!)) (mz:∀H e s',CX [] H jE! (fH! nm!) e s'->nm!): kT! (model P w) qE! (.call (y! fa) (dT! [ag!])) (λr s'=>r=.ok (.ret (.bool d!))/\OldK lM! gR!/\qp!=s₁.os/\rv!) jE!:=by
 have rv:=zb1 hi;have eR:∀H:Hp,zuD H->SqL K H a hZ!->HOk P w H lM!->(∀b,H b≠a!->b=a)->(H a≠a!->o0!=a!)-> kT! (model P w) qE! (.call (y! fa) (dT! [ag!])) (λr s'=>r=.ok (.ret (.bool d!))/\OldK lM! gR!/\qp!=s₁.os/\rv!) jE!:=by
  intro H hO hS hok hA hK;have bS:∀{b:Addr}{o:Obj},qD! b=b! o->fk!->fi! (zpg lM! H) b o:=λe n=>zkq e n;have eK:∀{b:Addr}{o:Obj}{es:Array DictEntry}{ep:Nat},qD! b=b! o->ih!=.dict es ep->fk!:=λ{b o es ep} e d=>by cases q:H b with
   | none=>rfl | some u=>
    have e' := hA b (by rw[q];simp);subst e';rw[ha]at e;cases e;cases d
  have fW:∀{b:Addr}{m:Str->Option Value},s₁.heap.Ns b m->(zpg lM! H).Ns b m:=λ{b m} ⟨o,es,ep,e,d,r⟩=>⟨o,es,ep,bS e (eK e d),d,r⟩;have i7 := gQ! (bS (KX b o e) (by cases q:H b with
   | none=>rfl | some u=>
    have e' := hA b (by rw[q];simp);subst e';rw[hK (by rw[q];simp)]at e;cases e));refine _dK ((F _ i7 (fW i6)).run qE! [] jE! H (dT! [ag!]) [ag!] [ag!] _ _ hr ⟨rfl,⟨i7,fW i6,⟨mb,fW hb,mw⟩,let ⟨mc,h1,h2⟩:=gP;⟨mc,fW h1,h2⟩⟩,gQ! (zp8 e),Nat.le_of_eq (zgw _ _),trivial,cv! (bO! (show b∈([]:ao!) from hb) (by simp)),hok,.of_eq hg⟩ (eP jE! ag!) (eX! rfl cD!) (cD H hO hS)) λr s' h=>?_;cases r with
  | error e=>exact b7! (mz H e s' h) | ok fl=> cases fl with
   | next=>exact mt! h | brk=>exact mt! h | cont=>exact mt! h | ret u=>
    obtain⟨v,H',os,bare,un,gQ,r',q⟩:=h;subst q;obtain rfl:u=Value.bool d!:=r';refine⟨rfl,OldK.of_keep (gQ! ?_),os,bare⟩;cases q:H b with
    | none=>exact un.keep b o e q (by intro z;exact bO! (show b∈([]) from z) (by simp)) (by simp) | some u=>
     rcases hO b with z | ⟨ob,xs,z⟩;·rw[q]at z;cases z
     ·obtain⟨e1,_⟩:=hok b _ z;obtain⟨e2,_⟩:=gQ b _ (un.frzs b ob _ z);rw[e]at e1;cases e1;exact e2
 cases hk:o0! with
 | some o=>
  have e:=KX a o hk;rw[ha]at e;cases e;refine eR (bk! a!) (bk! c7!) (T! ⟨_,e0!,_,hk,rfl,rfl,rfl,by rw[_t,hi.length];exact hl,by exact rv⟩) (λb u z=>by have z' := z;cases z') (λb z=>fn! z) λz=>fn! z | none=>
  refine eR (λb=>ir! (b=a) (b! (.frz {cls:=dk!,data:=.seq e0!} (X! hZ!)))) (λb=>?_) (C! (ew! ({cls:=dk!,data:=.seq e0!}) gD!)) (λb u z=>?_) (λb z=>?_) (bk! hk)
  ·by_cases hb:b=a;·exact T! ⟨_,_,_g hb⟩
   ·exact C! (_o hb)
  ·by_cases hb:b=a
   ·have z':=(_g hb).symm.trans z;cases z';subst hb;exact⟨ha,by rw[_z];exact hl,vs,_,rv,ha⟩
   ·have z':=(_o hb).symm.trans z;cases z'
  ·by_cases hb:b=a;·exact hb
   ·exact bO! (_o hb) z
noncomputable abbrev KOf{K:W.Frag}{h:Heap}(_:hC!):W.Frag:=K
noncomputable def kh(s:Stmt):Arguments:=match s with
 | .FunctionDef _ a _ _ _ _ _ _ _ _=>a | _=>{posonlyargs:=[],args:=[],vararg:=none,kwonlyargs:=[],kw_defaults:=[],kwarg:=none,defaults:=[]}
noncomputable def xP(s:Stmt):nK!:=match s with
 | .FunctionDef _ _ b _ _ _ _ _ _ _=>b | _=>[]
noncomputable def zj(s:Stmt):Scope:=match s with
 | .FunctionDef _ _ _ _ _ _ sc _ _ _=>sc | _=>{kind:=sl!,names:=[],isGenerator:=false,isCoroutine:=false}
noncomputable abbrev CX0:CXT:=λ_ _ _ _ _ _=>nm!
abbrev E0:XK:=fH! nm!
theorem zkE: Passes CX0 X E0:=λ_ _ _ _ _ _ _ h=>h.elim
structure Fun(K:W.Frag)(x qual:Str)(st:Stmt)(f:Addr)(fd:FuncData):g! where
 ex:∃(oc:Value)(od:Option Addr)(kV aE pm:Value)(an:Option Addr)(aj ct:Value)(cC:Array (Option Value)), fd=W.fnOf x av! (kh st) ic! dc! ab! kV aE pm an aj ct/\m8! f=b! ⟨oc,od,.func fd,cC⟩/\W.codeIn K aj av!=d!
 kp:o2! K=d!
section
variable {P:Program}{w:World}{K:W.Frag}{mg:Str->aU!}{base:Heap}
theorem Fun.ok{x qual:Str}{st:Stmt}{f:Addr}{fd:FuncData}{N ps:aq!}{k:Nat}{sp:Sp}(F:Fun K x av! st f fd)(S:S! N ps st)(len:∀vs H Q E,sp vs H Q E->mI!) (aZ:∀(aj:Value)(A:Around)(outer:List Env)(s:Shared)(H:Hp)(vs:List V)(Q:VK)(E:XK),z2G k (kx! av! dc! f aj)->sp vs H Q E-> ∃t,PSs (z5B CX0 P w K mg R! N av! dc! f aj A au! s H E).nox ic! t/\t {nx:=λ_ H'=>Q aA! H',rt:=Q} (pf! N) H):za7 P w K mg R! CX0 (k+1) f fd ps sp:=by
 obtain⟨oc,od,kV,aE,pm,an,aj,ct,cC,rfl,lk,bz⟩:=F.ex;refine zpu lk bz S len λA outer s H vs Q E hr cD=>?_;obtain⟨t,h,q⟩:=aZ aj A au! s H vs Q E hr cD;exact a3! t h.nox q
theorem Fun.binds{x qual:Str}{st:Stmt}{f:Addr}{fd:FuncData}{ps:aq!}(F:Fun K x av! st f fd) (h:rV! (iK!=a5!) (qy! (W.fnOf x av! (kh st) ic! dc! ab! kV aE pm an aj ct) (dT! us)=d3! mi!)):kF! K ps []:=by
 obtain⟨oc,od,kV,aE,pm,an,aj,ct,cC,rfl,lk,bz⟩:=F.ex;exact .all (h kV aE pm an aj ct)
theorem zrh{st:Stmt} {kV aE pm aj ct:Value}(l:m8! f=b! ⟨oc,od,.func (W.fnOf x av! (kh st) ic! dc! ab! kV aE pm an aj ct),cC⟩) (c:W.codeIn K aj av!=d!)(k:o2! K=d!):Fun K x av! st f (W.fnOf x av! (kh st) ic! dc! ab! kV aE pm an aj ct):=as! ⟨oc,od,kV,aE,pm,an,aj,ct,cC,rfl,l,c⟩ k
end
end L2
set_option maxHeartbeats 4000000
namespace L2
noncomputable def zdp(env:Env):bU! lJ!->bU! lx!->bU! lx!
 | [],acc=>acc | (n,k)::r,acc=>zdp env r (an! (k==bY!) (match env.cells.lookup n with | some c=>(n,c)::acc | none=>acc) acc)
theorem z7U: su! (∀x c,acc.lookup x=b! c->env.cells.lookup x=b! c) (∀x c,ja! (zdp env hn! acc) x c->env.cells.lookup x=b! c)
 | [],acc,ha=>ha | (n,k)::r,acc,ha=>by
  refine z7U r _ λx c=>?_;split
  ·split
   ·rename_i c' hc;intro h;rw[_Y]at h;split at h
    ·rename_i hb;cases h;rw[jG! hb];exact hc
    ·exact ha x c h
   ·exact ha x c
  ·exact ha x c
theorem zc0: su! (gq! (acc.lookup x)=d!) (gq! (po! (zdp env hn! acc) x)=d!)
 | [],acc,ha=>ha | (n,k)::r,acc,ha=>by
  refine zc0 r _ ?_;split
  ·split
   ·rw[_Y];split;·rfl
    ·exact ha
   ·exact ha
  ·exact ha
theorem z9F: su! ((x,ik!)∈hn!) ((∃c,env.cells.lookup x=b! c)->∃c,ja! (zdp env hn! acc) x c)
 | [],acc,h,_=>nomatch h | (n,k)::r,acc,h,hc=>by
  rcases ep! h with e | h
  ·cases e;obtain⟨c,hc⟩:=hc;unfold zdp;rw[hc];exact Option.isSome_iff_exists.mp (zc0 r _ (by simp))
  ·exact z9F r _ h hc
theorem z8Q(f:Str×lJ!->bU! lx!->Sem (ForInStep (bU! lx!))) (hf:∀n k cs,f (n,k) cs=an! (k==bY!) (do let a <- cellOf env n;d3! (.yield ((n,a)::cs))) (d3! (.yield cs))): su! (∀y∈names,y.2=bY!->∃c,env.cells.lookup y.1=b! c) (forIn hn! acc f=d3! (zdp env hn! acc))
 | [],acc,_=>rfl | (n,k)::r,acc,h=>by
  rw[List.forIn_cons,hf];have ih:=λgR=>z8Q f hf r gR (cN! (h y (_K _ hy)));unfold zdp;by_cases hk:k=bY!
  ·subst hk;obtain⟨c,hc⟩:=h (n,bY!) _am rfl;have cz := hc;have e:cellOf env n=d3! c:=by unfold cellOf;rw[cz]
   rw[e,cz];exact ih _
  ·have hb:(k==ik!)=q!:=by simpa using hk
   rw[hb];exact ih _
theorem z0q(h:∀y∈scope.names,y.2=bY!->∃c,env.cells.lookup y.1=b! c):closureFor bF! env=d3! (oS! env []):=by
 simp only[closureFor];rw[z8Q _ (λn k cs=>by cases hk:k==ik!<;>rfl) lK! [] h];rfl
theorem qM:∀(names:List (Str×NameKind))(n:Nat)(acc:List (Str×Addr)),so! n hn! acc=so! n hn! []++acc
 | [],_,_=>rfl | (x,k)::r,n,acc=>by
  unfold cellsFrom;split
  ·rw[qM r (n+1) ((x,n)::acc),qM r (n+1) [(x,n)]];simp
  ·exact qM r n acc
theorem z04: ∀(names:List (Str×NameKind))(n:Nat)(acc:List (Str×Addr)),(x,c)∈so! n hn! acc->(x,c)∈acc\/(x,NameKind.cell)∈hn!
 | [],_,_,h=>C! h | (y,k)::r,n,acc,h=>by
  unfold cellsFrom at h;split at h
  ·rename_i hk;rcases z04 r _ _ h with q | q
   ·rcases ep! q with e | q
    ·cases e;refine T! ?_;rw[(jG! hk)];exact _am
    ·exact C! q
   ·exact T! (_K _ q)
  ·rcases z04 r _ _ h with q | q;·exact C! q
   ·exact T! (_K _ q)
noncomputable def zln(X:Cx)(scope:Scope)(C:Addr):Env:= {scope:=relabel bF! az!,locals:=C,globals:=X.env.globals,cells:=mD! (C+1) []++oS! az! [],qual:=X.env.qual,func:=none,code:=X.env.code,frame:=X.env.frame,builtins:=X.env.builtins}
noncomputable def yg(X:Cx)(N':aq!)(scope:Scope)(ex:ao!)(s:Shared)(H:Hp):Cx where
 prog:=X.prog;w:=X.w;K:=X.K;mg:=X.mg;base:=X.base;A:=X.A;N:=N';s₀:=s;H₀:=H;env:=zln X bF! at!;outer:=X.stack;stack:=X.stack;ex:=ex;fn:=λx=>kc! x==dH!;calm:=X.calm;pn:=[];xe:=i4!
theorem z24{env:Env}{x:Str}{k:NameKind}:∀{names:List (Str×NameKind)},names.lookup x=b! k-> ja! (names.map λ(n,k)=>an! (k==ik!&&mO!&&mJ!==dH!) (n,NameKind.cell) (n,k)) x k\/ (k=bY!/\po! (names.map λ(n,k)=>an! (k==ik!&&mO!&&mJ!==dH!) (n,NameKind.cell) (n,k)) x=dH!)
 | [],h=>by cases h | (n,k')::r,h=>by
  have ih:=@z24 env x k r;show se! ((aF! (k'==ik!&&mO!&&mJ!==dH!) (n,NameKind.cell) (n,k'))::_)=_\/(_/\se! ((aF! (k'==ik!&&mO!&&mJ!==dH!) (n,NameKind.cell) (n,k'))::_)=_);cases hx:x==n with
  | true=>
   simp only[_Y,hx]at h;cases h;by_cases hc:(k==ik!&&mO!&&mJ!==dH!)=d!
   ·rw[_g hc];simp only[_S,_aC]at hc;exact ew! hc.1.1 (by simp[_Y,hx])
   ·rw[_o hc];exact C! (by simp[_Y,hx]) | false=>
   simp only[_Y,hx]at h;by_cases hc:(k'==ik!&&mO!&&mJ!==dH!)=d!;·rw[_g hc];simp only[_Y,hx];exact ih h
   ·rw[_o hc];simp only[_Y,hx];exact ih h
theorem kf{env:Env}{x:Str}{k:NameKind}:∀{names:List (Str×NameKind)}, ja! (names.map λ(n,k)=>an! (k==ik!&&mO!&&mJ!==dH!) (n,NameKind.cell) (n,k)) x k->(k=.cell\/k=bY!)->(x,NameKind.cell)∈hn!\/(x,ik!)∈hn!
 | [],h,_=>by cases h | (n,k')::r,h,hk=>by
  change se! ((aF! (k'==ik!&&mO!&&mJ!==dH!) (n,NameKind.cell) (n,k'))::_)=_ at h;have step:(se! (nq! (λ(n,k)=>an! (k==ik!&&mO!&&mJ!==dH!) (n,NameKind.cell) (n,k)))=b! k)->(x,NameKind.cell)∈(n,k')::r\/(x,ik!)∈(n,k')::r:=λq=> ((@kf env x k r) q hk).elim (λz=>C! (_K _ z)) λz=>T! (_K _ z);by_cases hc:(k'==ik!&&mO!&&mJ!==dH!)=d!
  ·rw[_g hc,_Y]at h;split at h
   ·rename_i hb;simp only[_S,_aC]at hc;rw[jG! hb,hc.1.1];exact T! _am
   ·exact step h
  ·rw[_o hc,_Y]at h;split at h
   ·rename_i hb;cases h;rw[jG! hb];rcases hk with rfl | rfl;·exact C! _am
    ·exact T! _am
   ·exact step h
noncomputable def inner(mp:fa!)(O:St):St:=mp.map λo=>match o with | some j=>(O[j]?).getD a! | none=>none
noncomputable def zaT(N:aq!)(names:bU! lJ!):aq!->eB! fa!
 | [],[]=>true | _::r,none::mp=>zaT N hn! r mp | x::r,some j::mp=>N[j]? == fd!&&names.lookup x==b! bY!&&zaT N hn! r mp | _,_=>false
theorem z9P: ∀{N':List Str} {mp:List (Option Nat)},zaT N hn! N' mp=d!->mp.length=N'.length
 | [],[],_=>rfl | _::r,none::mp,h=>_au (· + 1) (z9P (N':=r) (mp:=mp) h) | _::r,some _::mp,h=>_au (· + 1) (z9P (N':=r) (mp:=mp) (nr! h).2) | [],none::_,h=>by cases h | [],some _::_,h=>by cases h | _::_,[],h=>by cases h
theorem ze5: ∀{N':List Str} {mp:List (Option Nat)} {i j:Nat} {x:Str},zaT N hn! N' mp=d!->al! N' x->al! mp (b! j)->G! N j x/\names.lookup x=b! bY!
 | [],_,_,_,_,_,h,_=>by cases h | _::_,[],_,_,_,_,_,h=>by cases h | _::_,none::_,0,_,_,_,_,h=>by cases h | _::_,some _::_,0,_,_,h,h1,h2=>by
  have h:=nr! (nr! h).1;simp at h1 h2;subst h1 h2;exact⟨jG! h.1,jG! h.2⟩ | _::r,none::mp,i+1,_,_,h,h1,h2=>ze5 (N':=r) (mp:=mp) h (by exact h1) (by exact h2) | _::r,some _::mp,i+1,_,_,h,h1,h2=>ze5 (N':=r) (mp:=mp) (nr! h).2 (by exact h1) (by exact h2)
section
variable {X:Cx}{ae:dp!}{O:St}{H:Hp}{s s1:Shared}{scope:Scope}{N':aq!}{ex:ao!}{mp:fa!}
theorem zg6{α:bD!} {l1 l2:bU! α}{c:α}(h:ja! (l1++l2) x c):l1.lookup x=b! c\/(l1.lookup x=a!/\l2.lookup x=b! c):=by
 rw[_bV]at h;cases e:l1.lookup x with
 | some d=>rw[e]at h;exact C! h | none=>rw[e]at h;exact ew! rfl h
theorem zga(I:N!)(aV:kw!)(aR:∀y∈scope.names,kc! y.1=b! y.2) (aI:∀y∈scope.names,y.2=bY!->fY! y.1=dH!\/fY! y.1=b! bY!)(aX:kM! N' mp=d!) (cb:∀b∈ex,b<at!/\fk!/\i2! b/\b∉jC!/\(b∈lD!\/X.s₀.heap.objs.size<=b)/\(∀x c,gX! x c->c≠b)) (e1:qt!=rW! (ij! ({cls:=kr!,data:=lN! #[]})))(e2:s1.os=s.os)(e3:s1.gens=s.gens): Inv cC! [] ie! H s1:=by
 have keep:bJ! (dx! b->s1.heap.get? b=b! o):=gQ! (by rw[e1];exact pushCells_keeps _ _ b o (_i _ e))
 have ok:=cellsFrom_ok lK! (ij! ({cls:=kr!,data:=lN! #[]})) dZ! [] ⟨λ_ _ hm=>(nomatch hm),List.Pairwise.nil⟩ (by rw[_aK];exact am!);rw[_aK,<- e1]at ok;have eS:∀x c,ja! (oS! az! []) x c->gX! x c:=z7U lK! [] (λx c h=>by cases h);have i8:∀x c,gX! x c->c<at!:=λx c h=>by obtain⟨v,q⟩:=mq! x c h;exact q.lt
 have own := λx c h=>ok.empty x c (_ap h);have zmT:∀x c,(zln X bF! at!).cells.lookup x=b! c->(ja! (mD! dZ! []) x c/\s1.heap.IsCell c a!/\dZ!<=c)\/(gX! x c):=λx c h=>by
  rcases zg6 h with q | ⟨_,q⟩;·exact C! ⟨q,own x c q⟩
  ·exact T! (eS x c q)
 refine⟨⟨I.ok.mod,aV,I.ok.glob,I.ok.blt,am!,λx y c h1 h2=>?_,ac! ?_,λx c hf h=>?_,I.ok.hd,I.ok.frames,c7!,cv! ⟨_E (cb b hb).1,λx c h=>?_⟩,gQ! (I.bs b o e),_G I.ok.bsz I.sz,λb o e hb=>?_,λb hb hf=>?_,I.stack,I.stkFree⟩, e2,by rw[e3];exact I.bare,Un.kept keep,?_,λx c h=>?_,mF! _,λx c h=>?_,bs! (bO! (show p∈([]) from hp) (by simp)),I.hok.kept keep,?_⟩
 ·rcases zmT x c h1 with⟨q1,_,l1⟩ | q1<;>rcases zmT y c h2 with⟨q2,_,l2⟩ | q2;·exact name_of_addr ok.apart (_ap q1) (_ap q2)
  ·exact k9! (_j (i8 y c q2) (_da l1)) _
  ·exact k9! (_j (i8 x c q1) (_da l2)) _
  ·exact I.ok.inj x y c q1 q2
 ·have hx':(x,NameKind.cell)∈lK!\/(x,ik!)∈lK!:=by
   rcases hx with hx | hx;·exact kf hx c7!
   ·exact kf hx (T! rfl)
  show ∃c,ja! (mD! dZ! []++oS! az! []) x c;rw[_bV];cases e:po! (mD! dZ! []) x with
  | some c=>exact cl! c | none=>
   rcases hx' with hx' | hx'
   ·obtain⟨c,q⟩:=z5U (aR (x,.cell) hx');rw[q]at e;cases e
   ·obtain⟨c,q⟩:=z9F lK! [] hx' (I.ok.has x (aI (x,bY!) hx' rfl));exact⟨c,by exact q⟩
 ·obtain⟨c',q⟩:=z5U (jG! hf);have h':ja! (mD! dZ! []++oS! az! []) x c:=h;rw[_bV,q]at h';have e := _p h';subst e;exact _bg (Nat.lt_of_succ_le (own x c' q).2)
 ·rcases zmT x c h with⟨_,_,l⟩ | q
  ·intro z;rw[z]at l;exact k9! (_j (cb b hb).1 (_da l)) _
  ·exact (cb b hb).2.2.2.2.2 x c q
 ·rcases (cb b hb).2.2.2.2.1 with z | z;·exact I.ok.noex b o e z
  ·exact k9! (_j (_j df! I.ok.bsz) z) _
 ·rcases ep! (I.stkSub b hf) with z | z;·exact (cb b hb).2.2.1 z
  ·exact (cb b hb).2.2.2.1 z
 ·refine⟨bk! a!,?_,λi x v h1 h2 h3=>?_⟩
  ·rw[e1];exact (Heap.Ns.new L! kr!).keeps (pushCells_keeps _ _)
  ·have ce := h2;unfold inner at ce;rw[_D]at ce;cases em:mp[i]? with
   | none=>rw[em]at ce;cases ce | some o=>
    rw[em]at ce;cases o with
    | none=>cases ce | some j=>
     obtain⟨hj,hl⟩:=ze5 aX h1 em;have eT := _ap hl;obtain⟨m,hn,eU⟩:=I.loc;have kx := aI _ eT rfl;obtain⟨u,r,L⟩:=eU j x v hj (by
      simp only[_ai]at ce;cases eO:O[j]? with
      | none=>rw[eO]at ce;cases ce | some o=>rw[eO]at ce;exact ce) (by rcases kx with k | k;exact T! (C! k);exact iu! k);refine⟨u,r,T! ?_⟩;rcases L with⟨k,_⟩ | ⟨_,c,hc,bQ⟩;·rcases kx with k' | k'<;>(rw[k]at k';cases k')
     ·refine⟨?_,c,?_,bQ.keeps keep⟩
      ·rcases z24 hl with q | ⟨_,q⟩;·exact T! q
       ·exact C! q
      ·show ja! (mD! dZ! []++oS! az! []) x c;rw[_bV];cases e:po! (mD! dZ! []) x with
       | some c'=> exact bO! ((z04 _ _ _ (_ap e)).resolve_left (by simp)) (λz=>by
       have a:=aR _ z;rw[hl]at a;cases a) | none=>
        obtain⟨c2,q⟩:=z9F lK! [] eT ⟨c,hc⟩;have q2:=eS x c2 q;rw[hc]at q2;cases q2;exact q
 ·rcases zmT x c h with⟨_,q,_⟩ | q;·exact f9! q
  ·obtain⟨v,z⟩:=mq! x c q;exact⟨v,z.keeps keep⟩
 ·rcases zmT x c h with⟨_,_,l⟩ | q;·exact sn! (by lia)
  ·exact I.freeC x c q
 ·unfold inner;rw[_z];exact z9P aX
end
section
variable {M:Model}{A:Around}{E:b1!}{s:Shared}
theorem ze2(h:Q {scope:=scope,locals:=s.heap.objs.size,globals:=env.globals,cells:=mD! dZ! cl,qual:=env.qual,func:=none,code:=env.code,frame:=env.frame,builtins:=env.builtins} {s with heap:=rW! (ij! ({cls:=kr!,data:=lN! #[]}))}): fR! M A (newFunctionEnv bF! env.globals cl [] env.qual a! ab! (b! env)) Q E:=by
 refine _a (wpAny_alloc (_a (wpAny_layCells _ (λname kind cells=>by cases hkc:kind==NameKind.cell<;>simp[hkc]) _ _ _ _ ?_)));rw[(_aK ..)];exact _a (_m (_m h))
end
section
variable {prog:Program}{w:World}{A:Around}{E:b1!}{R:Result->eL!}{s:Shared}
theorem zbx(I:Nat->eL!) (turn:∀n s,I n s->cG! w A (pl! it) (λr s₁=>match r with
   | none=>R (.ok .next) jE! | some v=>cG! w A (letOwnedTupleGo bA it v) (λ_ i9=>cG! w A (assign bA env v) (λ_ s₂=> cG! w A (forIn aC d! λc r=>aF! r (do let ok <- qq! c env (kz! c);sA! ok) (sA! r)) (λok s₃=> aF! ok (cG! w A (kz! az) (λx s₄=> cG! w A (p8! "list.append" [acc,x]) (λ_ s₅=>∃m,m<n/\I m s₅) i4! s₄) i4! s₃) (∃m,m<n/\I m s₃)) i4! ms!) i4! i9) i4! jE!) i4! s) (n:Nat)(h:I n s): kT! if! A (.compLoop (gi! [ck! bA ii! aC 0]) 0 it acc env) R s:=by
 refine codeAny_loop rfl I (λn s hI=>(wpAny_noted ?_)) n h;refine _a (_cl (_a (_aa (turn n s hI) (λr s₁ h₁=>?_) rw!)));cases r with
 | none=>exact _m h₁ | some v=>
  refine _a (_aa h₁ (λ_ i9 mE=>(_a (_aa mE (λ_ s₂ h₂=>_a (_aa h₂ (λok s₃ h₃=>?_) rw!)) rw!))) rw!);cases ok with
  | false=>exact _m (g4! h₃) | true=> exact _a (_a (_aa h₃ (λx s₄ h₄=>_a (_aa h₄ (λ_ s₅ h₅=>_m (_m (g4! h₅))) rw!)) rw!))
end
def zd3(X:Cx)(aC:aI!)(t:TT):g!:= ∀(ae:List (Addr×Obj))(s:Shared)(O:St)(H:Hp)(Q:Bool->Hp->Prop),N!->t O H Q-> bR! (forIn aC d! λc r=>aF! r (do let ok <- qq! c az! (hr! c);sA! ok) (sA! r)) (TP X ae O Q) s
theorem zl8: zd3 X [] (λ_ H Q=>Q d! H):=pk! (wpAny_tests_nil ⟨H,I,h⟩)
theorem zlm(h:PT X c t):zd3 X [c] t:=λae s O H Q I hq=>wpAny_tests_one (h ae s O H Q I hq)
theorem Inv.track{O:St} (I:N!)(f:zcG X ae H a)(new:kC aV! X.w (cf! a o) L! a o):cQ! (cf! a o) s:=by
 obtain⟨f0,f1,f2,f3,f4,f5⟩:=f;exact I.step (ch:=[a]) (cv! (by
  have e:b=a:=by simpa using hb
  subst e;exact ck! f3 f1 f4 f5)) (λb o _ _ _ e _=>e) (λb o _ _ _ e _=>dD! o.slots) (λb o hb _ n=>by rw[zM (λz=>hb (by simp[z]))];exact n) (λb o _ e=>dD! o) (λb xs q=>by rw[zM (xx q f0)];exact q) (λb u xs q=>by rw[zM (xx q f0)];exact q) (λb ps q=>⟨#[],by rw[zM (xx q f0),q];rfl⟩) (λ_ q=>q) (λb u e=>by
  by_cases hb:b=a;·subst hb;rw[yA]at e;cases e;exact new
  ·rw[zM hb]at e;exact (n9! b u e).stay (λ_ _ _ q=>q) (λc q=>by rw[zM (xx q f0)];exact q) λc xs q=>by rw[zM (xx q f0)];exact q) I.bare
def zll(wi:TI)(mp:fa!)(g:TG)(ti:TT)(te:TE):TE:=gS! (wi O H λJ H1=>∃W:Nat->Nat->List V->Hp->Prop,(∃m,W 0 m [] H1)/\∀i m ys H,W i m ys H-> (J.stop i H/\oT!/\∀p,gN!->Q cg! (fV! hz!))\/ (J.go i H/\∀x H',J.yld i H x H'->g x ie! H' λO2 H2=>(O2.length=t! ie!/\∀(i:Nat) v,al! ie! bV!->al! O2 bV!)/\ ti O2 H2 λb H3=>aF! b (te O2 H3 λy H4=>oT!/\∃m',m'<m/\W (i+1) m' (ys++[y]) H4) (∃m',m'<m/\W (i+1) m' ys H3)))
def z5T(X:Cx)(ae:dp!)(O:St)(C:Addr)(Q:VK)(acc:Value)(s':Shared):g!:= ∃v Hf,cQ! Hf s'/\wQ v acc/\Q v Hf/\(∃m,s'.heap.Ns C m)/\zcG X ae Hf C
theorem zk9{gens:em! Comprehension}{O:St} {RR:d2!->lx!->Result->eL!} (aV:kw!)(aR:∀y∈scope.names,kc! y.1=b! y.2) (aI:∀y∈scope.names,y.2=bY!->fY! y.1=dH!\/fY! y.1=b! bY!)(aX:kM! N' mp=d!) (I2:cQ! H2 ms!)(T:zkj aV! X.w X.K tg J fp it tn)(bj:tn 0 s₂.heap)(f2:∀b∈fp,zcG X ae H2 b) (go:∀(acc:Addr)(s₃ s₄:Shared),cQ! H2 s₃->H2 acc=a!->zcG X ae H2 acc->(∀b∈fp,b<acc)->acc≠ol!-> Inv (kG! X (acc::fp) H2) [] ie! H2 s₄->s₄.heap.get? acc=b! (sp! [])->tn 0 s₄.heap-> (∀{H':Hp}{o:Obj},(∀b∈fp,gf! b)->∀b∈fp,zcG (kG! X (acc::fp) H2) [(acc,o)] H' b)-> (∀{P:List (Addr×Obj)}{O':St}{H':Hp}{s':Shared}{af:List Value},Inv (kG! X (acc::fp) H2) P O' H' s'->gf! acc->r2!=b! ku!->Inv (kG! X (acc::fp) H2) ([(acc,ku!)]++P) O' H' s')-> kT! (oX! X.w) X.A (.compLoop (gi! (gK! 0::gens)) 0 kE! (y! acc) (zln X bF! ol!)) (RR (y! acc) ol!) s₄): l6! (newList []) (λacc s₃=>l6! (newFunctionEnv bF! X.env.globals (oS! az! []) [] X.env.qual a! ab! (b! az!)) (λcG s₄=> kT! (oX! X.w) X.A (.compStart (gi! (gK! 0::gens)) 0 kE! acc {cG with scope:=relabel bF! az!}) (RR acc cG.locals) s₄) E s₃) E ms!:=by
 refine _aI ?_;have dc := I2.hok.fresh am!;have fA := I2.fpOk am! dc;generalize bK:s₂.heap.objs.size=acc at dc fA ⊢;have I3:cQ! H2 ({s₂ with heap:=s₂.heap.push {cls:=dk!,data:=o3! ([]:bZ!)}}):=I2.kept (mj! _ e);have mF:fi! (s₂.heap.push {cls:=dk!,data:=o3! ([]:bZ!)}) acc (sp! []):=by rw[<- bK];exact hh!
 have mG:eo! (s₂.heap.push {cls:=dk!,data:=o3! ([]:bZ!)})=acc+1:=by rw[_aK,bK]
 have mH:bJ! (s₂.heap.get? b=b! o->fi! (s₂.heap.push {cls:=dk!,data:=o3! ([]:bZ!)}) b o):=mj! _ e;generalize de:({s₂ with heap:=s₂.heap.push {cls:=dk!,data:=o3! ([]:bZ!)}}:n5!)=s₃ at I3 ⊢;have gS:s₃.heap.get? acc=b! (sp! []):=by rw[<- de];exact mF
 have cV:ol!=acc+1:=by rw[<- de];exact mG
 have gT:bJ! (s₂.heap.get? b=b! o->s₃.heap.get? b=b! o):=by rw[<- de];exact mH
 have flt:∀b∈fp,b<acc:=cv! (by
  obtain⟨o,e,_⟩:=T.obj 0 _ bj b hb;rw[<- bK];exact df!)
 have gU := cv! (_E (flt b hb));have mI := T.keep 0 _ _ bj (pm! (gT b o e));refine ze2 ?_;rw[qM];have I4:=zga (s1:={s₃ with heap:=rW! (s₃.heap.push {cls:=kr!,data:=lN! #[]})}) I3 aV aR aI aX (cv! (by
  rcases ep! hb with z | hb
  ·subst z;exact⟨by rw[cV];exact _ce _,dc,fA.2.1,fA.2.2.1,fA.2.2.2.1,fA.2.2.2.2.1⟩
  ·have q:=f2 b hb;exact⟨by rw[cV];exact _aX (flt b hb),q.1,q.2.1,q.2.2.1,q.2.2.2.1,q.2.2.2.2.1⟩)) rfl rfl rfl;have j0:bJ! (s₃.heap.get? b=b! o->fi! (rW! (s₃.heap.push {cls:=kr!,data:=lN! #[]})) b o):=gQ! (pushCells_keeps _ _ b o (_i _ e));generalize hs4:({s₃ with heap:=rW! (s₃.heap.push {cls:=kr!,data:=lN! #[]})}:n5!)=s₄ at I4 ⊢;have gV:s₄.heap.get? acc=b! (sp! []):=by rw[<- hs4];exact j0 _ _ gS
 have fX:tn 0 s₄.heap:=T.keep 0 _ _ mI (pm! (by rw[<- hs4];exact j0 b o e))
 have eV:acc≠ol!:=by rw[cV];exact _E (_ce _)
 have cH := cv! (I4.ok.exf b hb).2;have bC:∀{H':Hp}{o:Obj},(∀b∈fp,gf! b)->∀b∈fp,zcG (kG! X (acc::fp) H2) [(acc,o)] H' b:=λ{H' o} hn b hb=> ⟨hn b hb,_E (by show b<ol!;rw[cV];exact _aX (flt b hb)),λhf=>I4.ok.exfs b (_K _ hb) hf,C! (_K _ hb),cH b (_K _ hb),bs! (by
   have e:p=(acc,o):=by simpa[yg] using hp
   rw[e];exact _bT (gU b hb))⟩;have gW:∀(af:List Value)(v:Option Value),(ku!).data≠.cell v:=λaf v z=>by
  have z' := z;cases z'
 have dF:∀{P:List (Addr×Obj)}{O':St}{H':Hp}{s':Shared}{af:List Value},Inv (kG! X (acc::fp) H2) P O' H' s'->gf! acc->r2!=b! ku!->Inv (kG! X (acc::fp) H2) ([(acc,ku!)]++P) O' H' s':=λ{P O' H' s' af} J' n' e'=> J'.pins_of (bs! (by
   rcases nl! hp with hp | hp
   ·have e:p=(acc,ku!):=by simpa using hp
    subst e;exact⟨e',n',eV,λhf=>I4.ok.exfs acc _am hf,gW af⟩
   ·exact J'.pin p (_P _ hp)))
 have loop:=go acc s₃ s₄ I3 dc fA flt eV I4 gV fX bC dF;exact codeAny_compStart_list loop (T.self _ 0 _ _ _ fX loop)
theorem z47{O:St} {RR:d2!->lx!->Result->eL!} (hc:b0!)(hg:mg! cC! tg g)(ht:md! cC! aC ti)(he:∀ex s H,PE cC! az te) (aV:kw!)(aR:∀y∈scope.names,kc! y.1=b! y.2) (aI:∀y∈scope.names,y.2=bY!->fY! y.1=dH!\/fY! y.1=b! bY!)(aX:kM! N' mp=d!) (I2:cQ! H2 ms!)(T:zkj aV! X.w X.K tg J fp it tn)(bj:tn 0 s₂.heap)(f2:∀b∈fp,zcG X ae H2 b) (W:Nat->Nat->aG!->bW!)(w0:∃m,W 0 m [] H2) (turn:∀i m ys H,W i m ys H-> (J.stop i H/\oT!/\∀p,gN!->Q cg! (fV! hz!))\/ (J.go i H/\∀x H',J.yld i H x H'->g x ie! H' λO2 H2=>(O2.length=t! ie!/\∀(i:Nat) v,al! ie! bV!->al! O2 bV!)/\ ti O2 H2 λb H3=>aF! b (te O2 H3 λy H4=>oT!/\∃m',m'<m/\W (i+1) m' (ys++[y]) H4) (∃m',m'<m/\W (i+1) m' ys H3))) (mJ:∀acc C s',z5T X ae O C Q acc s'->RR acc C (.ok .next) s'): l6! (newList []) (λacc s₃=>l6! (newFunctionEnv bF! X.env.globals (oS! az! []) [] X.env.qual a! ab! (b! az!)) (λcG s₄=> kT! (oX! X.w) X.A (.compStart (gi! [gK! 0]) 0 kE! acc {cG with scope:=relabel bF! az!}) (RR acc cG.locals) s₄) E s₃) E ms!:=by
 refine zk9 aV aR aI aX I2 T bj f2 λacc s₃ s₄ I3 dc fA flt eV I4 gV fX bC eW=>?_;have gU := cv! (_E (flt b hb));have cH := cv! (I4.ok.exf b hb).2;have dF:∀{O':St}{H':Hp}{s':Shared}{af:List Value},Inv (kG! X (acc::fp) H2) [] O' H' s'->gf! acc->r2!=b! ku!->Inv (kG! X (acc::fp) H2) [(acc,ku!)] O' H' s':=eW;obtain⟨m0,w0⟩:=w0;have loop:kT! (oX! X.w) X.A (.compLoop (gi! [gK! 0]) 0 kE! (y! acc) (zln X bF! ol!)) (RR (y! acc) ol!) s₄:=by
  refine zbx (λn s'=>∃i ys af H',Inv (kG! X (acc::fp) H2) [] ie! H' s'/\tn i gR!/\(∀b∈fp,gf! b)/\gf! acc/\r2!=b! ku!/\xt ys af/\W i n ys H') ?_ m0 ⟨0,[],[],H2,I4,fX,cv! (f2 b hb).1,dc,gV,cD!,w0⟩;rintro n s5 ⟨i,ys,af,H5,I5,j3,n5,gX,mK,fY,w5⟩;have j4:=dF I5 gX mK;rcases turn i n ys H5 w5 with⟨stop,hz,q⟩ | ⟨go,step⟩
  ·refine le! (T.done (kG! X (acc::fp) H2) rfl rfl rfl hc i _ s5 _ H5 i4! j4 (bC n5) j3 stop) (λr s6 ⟨hr,I6⟩=>?_) z;subst hr;have mL:=(I6.pin (acc,ku!) (by simp)).1;have un := I6.base;have I7 := I3.call' (I6.os) un I6.hok I6.bare (cv! (by
    rcases ep! hb with z | hb;·subst z;exact ck! fA.2.2.2.1 fA.2.1 fA.2.2.2.2.1 fA.2.2.2.2.2
    ·exact ck! (f2 b hb).2.2.2.1 (f2 b hb).2.1 (f2 b hb).2.2.2.2.1 (f2 b hb).2.2.2.2.2))
   have C7 := I3.fpOk am! I6.free;refine mJ _ _ s6 ⟨y! acc,upd H5 acc hz!,I7.track ⟨gX,fA.2⟩ ?_,rfl,q acc gX,?_,?_,C7.2⟩;·exact⟨hz,af,_,fY,mL⟩
   ·obtain⟨m,hm,_⟩:=I6.loc;exact as! m hm
   ·rw[zM (_bT eV)];exact I6.free
  ·refine le! (T.item (kG! X (acc::fp) H2) rfl rfl rfl hc i _ s5 _ H5 i4! j4 (bC n5) j3 go) (λr s6 ⟨u,hr,h6⟩=>?_) z;subst hr;refine le! h6 (λ_ s7 ⟨x,H7,I7,r7,y7,gY,n7⟩=>?_) z;have mM:=I7.pinned (bC n7) (T.obj _ _ gY);refine le! (hg _ _ _ _ s7 ie! H7 x u _ mM r7 (step x H7 y7)) (λ_ s8 ⟨O8,H8,I8,⟨kl,kv⟩,q8⟩=>?_) z;refine le! (ht _ _ _ _ s8 O8 H8 _ I8 q8) (λb s9 ⟨H9,I9,q9⟩=>?_) z;have eX:∀{O':St}{H':Hp}{s':Shared},Inv (kG! X (acc::fp) H2) ([(acc,ku!)]++zcn fp s7.heap) O' H' s'->(∀b∈fp,gf! b)/\gf! acc/\r2!=b! ku!/\tn (i+1) gR!/\∀b∈fp,∀o,s7.heap.get? b=b! o->sG!=b! o:=λ{O' H' s'} J'=>by
    have z:=J'.pin (acc,ku!) (by simp[yg]);have zz:∀b∈fp,∀o,s7.heap.get? b=b! o->sG!=b! o/\gf! b:=pm! (by
     have y:=J'.pin (b,o) (_P _ (_P _ (kN hb e)));exact as! y.1 y.2.1)
    refine⟨cv! ?_,z.2.1,z.1,T.keep _ _ _ gY (pm! (zz b hb o e).1),pm! (zz b hb o e).1⟩;obtain⟨o,e,_⟩:=T.obj _ _ gY b hb;exact (zz b hb o e).2
   cases b with
   | false=>
    rw[_o (by decide)]at q9 ⊢;obtain⟨m',lt,w9⟩:=q9;obtain⟨z1,z2,z3,z4,_⟩:=eX I9;exact⟨m',lt,i+1,ys,af,H9,(I9.pins_of (bs! (bO! hp (by simp)))).weak kl.symm kv,z4,z1,z2,z3,fY,w9⟩ | true=>
    rw[gD!]at q9 ⊢;refine le! (he _ _ _ _ s9 O8 H9 _ I9 q9) (λyv mO ⟨y,mP,j5,mQ,hz,m',lt,mR⟩=>?_) z;obtain⟨z1,z2,z3,z4,_⟩:=eX j5;have zl:iS!<=aY!:=by rw[_t,<- fY.length];exact hz
    refine append_at z3 λfZ sb gZ=>?_;have g9:=(j5.pins_of (pins':=[]) (bs! (bO! hp (by simp)))).weak kl.symm kv;have mS := g9.turned (t':=mO.toks) (kR! (aJ! (sb.2 b hb) e)) z2 eV (C! _am) (cH acc _am) (bs! (bO! hp (by simp[yg])));exact⟨m',lt,i+1,ys++[y],af++[yv],mP,mS,T.keep _ _ _ z4 (pm! (aJ! (sb.2 b (gU b hb)) e)),z1,z2,gZ.trans (_au some (LCg.lst_snoc af yv)),fY.append (eX! mQ cD!),mR⟩
 exact loop
section
variable {X:Cx}{tg iter az:Expr}{aC:aI!}{scope:Scope}{pos aF py:Pos}{wi:TI}{g:TG}{ti:TT}{te:TE}{N':aq!}{mp:fa!}
theorem z2D{O:St} (I:N!)(f:zcG X ae H C)(sb:Heap.SameBut C L! h'):l4! ({s with heap:=h'}):= I.turned (kR! (aJ! (sb.2 b hb) e)) f.1 f.2.1 f.2.2.2.1 f.2.2.2.2.1 f.2.2.2.2.2
theorem zhM(N':aq!)(mp:fa!)(hc:b0!)(hi:PI X tg ii! wi)(hg:mg! cC! tg g)(ht:md! cC! aC ti)(he:∀ex s H,PE cC! az te) (aV:kw!)(aR:∀y∈scope.names,kc! y.1=b! y.2) (aI:∀y∈scope.names,y.2=bY!->fY! y.1=dH!\/fY! y.1=b! bY!)(aX:kM! N' mp=d!) (hs:lv! (lm! x=lu!)):W! (gi! [gK! 0]) (zll wi mp g ti te):=by
 refine iP! (_bQ rfl hs (z0q λy hy hf=>I.ok.has _ (aI y hy hf)) aV (λy hy hl=>by rw[aR y hy,hl]) (thn (hi ae s O H _ I h) λxv s₁ h₁=>thn h₁ λeI s₂ h₂=>?_));obtain⟨it,fp,tn,J,H2,e,I2,T,bj,f2,W,w0,turn⟩:=h₂;subst e;refine z47 hc hg ht he aV aR aI aX I2 T bj f2 W w0 turn ?_;rintro acc C s' ⟨v,Hf,I3,r,q,⟨m,hm⟩,f⟩;exact⟨m,hm,λh' sb=>⟨v,Hf,z2D I3 f sb,r,q⟩⟩
theorem zfY(N':aq!)(mp:fa!)(hN:X.N.Nodup)(hy:ga! y)(cI:gZ! y) (hc:b0!)(hi:PI X tg ii! wi)(hg:mg! cC! tg g)(ht:md! cC! aC ti)(he:∀ex s H,PE cC! az te) (aV:kw!)(aR:∀y∈scope.names,kc! y.1=b! y.2) (aI:∀y∈scope.names,y.2=bY!->fY! y.1=dH!\/fY! y.1=b! bY!)(aX:kM! N' mp=d!) (hs:lv! (lm! x=lu!)) (cJ:B! (mG! (gi! [gK! 0]) (b! gj!) qF!=rJ!)) (hf:g0! (f8! y\/e7! y)): PS X (.Assign [gj!] (gi! [gK! 0]) aF) (zt4 (zll wi mp g ti te) (zft i)):=by
 intro ae s O H D I h;rw[exec_Assign_Name_used _ _ _ _ cJ];refine _a (_cl (_a (_a (_aa (_bQ rfl hs (z0q λy hy hf=>I.ok.has _ (aI y hy hf)) aV (λy hy hl=>by rw[aR y hy,hl]) (thn (hi ae s O H _ I h) λxv s₁ h₁=>thn h₁ λeI s₂ h₂=>?_)) (λ_ s' hq=>_m (_m hq)) λ_ _ e=>e))));obtain⟨it,fp,tn,J,H2,e,I2,T,bj,f2,W,w0,turn⟩:=h₂;subst e;refine z47 (Q:=λv H'=>D.nx (lb! i) H') hc hg ht he aV aR aI aX I2 T bj f2 W w0 turn ?_;rintro acc C s' ⟨v,Hf,I3,r,q,⟨m,hm⟩,f⟩;exact _c5 (z7J I3 hN hy cI r (λeJ I4 ⟨a,sb,ha⟩=>⟨m,hm.sameBut sb (by
  rcases ha with z | z;·rw[z];exact f.2.1
  ·exact _bT (f.2.2.2.2.1 y a z)),λh' hJ=>⟨_,Hf,z2D I4 f hJ,q⟩⟩) hf)
end
structure M2(X:Cx)(o:Expr)(m:Str)(ao:Pos)(e f:Expr)(ak:Pos):g! where
 base:l7! o m gI!=gI!
 few:(hD! (hX! ak [e,f]) (! x.1)&&hD! (nF! ak [] az!) (gq! x.1) && bl! (t! ([e,f]:aI!)+t! ([]:g2!)+(nG! ([]:g2!) 0 1)<30))=d!
 line:p6!=d!
 trees:hX! ak [e,f]=[d1!,d6! f]
end L2
set_option maxHeartbeats 4000000
namespace Dd
open L2
theorem zey(xs:aI!)(k:Nat)(p:Pos)(es:aI!)(env:Env):gy! (hP! xs k p::es)=(q!,kz! (hP! xs k p))::gy! es:=rfl
theorem zkV(xs:aI!)(p:Pos)(es:aI!)(env:Env):gy! (.List xs p::es)=(q!,kz! (.List xs p))::gy! es:=rfl
theorem xu(f:Expr)(xs:aI!)(ks:g2!)(p:Pos)(es:aI!)(env:Env):gy! (fJ! f xs ks p::es)=(q!,kz! (fJ! f xs ks p))::gy! es:=rfl
theorem zkf(a:Expr)(o:Operator)(b:Expr)(p:Pos)(es:aI!)(env:Env):gy! (.BinOp a o b p::es)=(q!,kz! (.BinOp a o b p))::gy! es:=rfl
theorem uY(a b:Expr)(p:Pos)(es:aI!)(env:Env):gy! (rO! b p::es)=(q!,kz! (rO! b p))::gy! es:=rfl
theorem zF(a:Expr)(g:em! Comprehension)(sc:Scope)(p:Pos)(es:aI!)(env:Env):gy! (.ListComp a g sc p::es)=(q!,kz! (.ListComp a g sc p))::gy! es:=rfl
theorem z5Q(a:Expr)(o:em! CmpOp)(b:aI!)(p:Pos)(es:aI!)(env:Env):gy! (.Compare a o b p::es)=(q!,kz! (.Compare a o b p))::gy! es:=rfl
theorem z9r(c:Const)(j:Nat)(p:Pos)(es:aI!)(env:Env):gy! (mf! c p::es)=(q!,kz! (mf! c p))::gy! es:=rfl
theorem zr(x:Str)(p:Pos)(es:aI!)(env:Env):gy! (fq! p::es)=(q!,kz! (fq! p))::gy! es:=rfl
theorem zos(o:UnaryOp)(a:Expr)(p:Pos)(es:aI!)(env:Env):gy! (.UnaryOp o a p::es)=(q!,kz! (.UnaryOp o a p))::gy! es:=rfl
inductive D where | non | bl (b:Bool) | int (i:Int) | str (x:Str) | tup (xs:x!) | lst (xs:x!) | dct | loc (l:Nat) | dlo (l:Nat) | fn (x:Str) | exc (x:Str) | scr (xs:x!)
noncomputable abbrev Sto:=em! x!
noncomputable abbrev Ev:=mB! D
inductive R(α:bD!) where | ok (a:α)(s:Sto) | ex (c:Str)(s:Sto) | no
noncomputable def R.bind(r:R α)(k:α->ee! β):R β:=match r with
 | .ok a s=>k a s | .ex c s=>dW! | .no=>.no
@[simp] theorem R.bind_ok{α β:bD!}(a:α)(s:Sto)(k:α->ee! β):D! (eG! a s) k=k a s:=V!
noncomputable abbrev Rb:=@R.bind_ok
@[simp] theorem R.bind_ex(c:Str)(s:Sto)(k:α->ee! β):D! (R.ex c s:R α) k=dW!:=V!
@[simp] theorem R.bind_no(k:α->ee! β):D! (R.no:R α) k=.no:=V!
noncomputable def D.flat:eB! D
 | .tup xs=>flats xs | .lst xs=>flats xs | .scr xs=>flats xs | .loc _=>false | .dlo _=>false | _=>true
where flats:eB! x!
 | []=>true | x::xs=>x.flat&&flats xs
theorem flN:dj! []:=V!
theorem flC:sq! (x::xs)=(x.flat&&sq! xs):=V!
noncomputable def zm4(C a:Addr):HO:=.ext λh=>∃o vs,cK! a/\gp!=ap!/\ih!=eY! vs
structure Gm where
 m:Str->aU!
 K:W.Frag
noncomputable abbrev gm(X:Cx):Gm:=as! fG! X.K
def IsL(H:Hp)(a:Addr):g!:=∃vs,ct! bT!
def IsC(H:Hp)(a:Addr):g!:=(∃ah,ct! (.dT ah))\/(∃o ah,ct! (ec! (.dT ah)))\/(∃ah,a4! ah/\ct! hd!)\/∃o ah,ct! (ec! hd!)
def Own(H:Hp)(Y:ao!)(b:Addr):g!:=∃a∈Y,∃ah k,ct! hd!/\(k,m3!)∈ah
theorem IsL.notC(h:IsL H a)(h':IsC H a):False:=by obtain⟨_,e⟩:=h;rcases h' with⟨_,e'⟩ | ⟨_,_,e'⟩ | ⟨_,_,e'⟩ | ⟨_,_,e'⟩<;>rw[e]at e'<;>cases e'
noncomputable def zwR:Key->D
 | .inl i=>U! | .inr x=>a1!
noncomputable def zwU:V->fN!
 | .int i=>cq! | .bl b=>b! (.bl b) | _=>none
noncomputable def zv9:x!->i1! (em! Key) V->g!
 | [],ah=>ah=[] | d::ds,ah=>∃k v x r,ah=(k,v)::r/\zwU v=fd!/\d=n! [n! (k.map zwR),x]/\zv9 ds r
def KL(K:W.Frag)(a:Addr)(xs:aG!):g!:=∃(o:Obj)(af:Array Value)(n:Nat),o0!=b! o/\gp!=dk!/\o.dict=a!/\ih!=.seq af n/\af.size<=aY!/\xt xs pg!
section
variable (mg:Gm)
mutual
noncomputable def Den(H:Hp)(Y:ao!):D->V->g!
 | .non,v=>v=aA! | .bl b,v=>v=.bl b | .int i,v=>v=U! | .str x,v=>v=a1! | .tup ds,v=>∃a vs,v=ag!/\ct! (n! vs)/\yo H Y ds vs | .lst ds,v=>∃a o vs,v=ag!/\ct! (ec! bT!)/\yo H Y ds vs | .dct,v=>∃a,v=ag!/\ct! (.dK []) | .loc l,v=>∃a,v=ag!/\G! Y l a/\IsL H a | .dlo l,v=>∃a,v=ag!/\G! Y l a/\IsC H a | .fn x,v=>∃a,v=ag!/\mg.m x=b! ag! | .exc x,v=>∃a C,v=ag!/\mg.m x=b! ap!/\ct! (zm4 C a) | .scr ds,v=>∃a vs,v=ag!/\((∃o,ct! (ec! bT!))\/KL ns! a vs)/\yo H Y ds vs
noncomputable def yo(H:Hp)(Y:ao!):x!->aG!->g!
 | [],vs=>vs=[] | d::ds,vs=>∃v r,vs=v::r/\Den H Y d v/\yo H Y ds r
end
noncomputable def zgc(H:Hp)(Y:ao!):x!->i1! Key V->g!
 | [],ah=>ah=[] | d::ds,ah=>∃k ys b vs r,ah=(pi! k,m3!)::r/\oU! ys/\((d=n! [c! k,hz!]/\cY! bT!)\/(d=cn! k hz! aA!/\∃o,cY! (ec! bT!)))/\zgc H Y ds r
def zqB(ys:x!):g!:=∀d∈ys,∃k zs,d=cn! k (X! zs) aA!
def kO(H:Hp)(Y:ao!)(xs:x!)(a:Addr):g!:=(∃vs,ct! bT!/\hE!)\/(∃ah,ct! (.dT ah)/\zv9 xs ah)\/(∃o ah ys,ct! (ec! (.dT ah))/\xs=aA!::ys/\zv9 ys ah)\/(∃ah,a4! ah/\ct! hd!/\zgc mg H Y xs ah)\/∃o ah ys,ct! (ec! hd!)/\xs=aA!::ys/\zgc mg H Y ys ah/\zqB ys/\a4! ah
structure Rep(H:Hp)(Y:ao!)(s:Sto):g! where
 len:qG!=aW!
 nd:Y.Nodup
 cell:∀(l:Nat)(xs:List D),G! s l xs->∃a,G! Y l a/\kO mg H Y xs a
 flat:∀xs∈s,dj! xs
 own:∀b,Own H Y b->b∉Y
 uq:∀a∈Y,∀a'∈Y,∀ah bn (i j:Nat) k k' b,ct! hd!->H a'=b! (.dK bn)->al! ah (k,m3!)->G! bn j (k',m3!)->a=a'/\i=j
structure uh(H:Hp)(Y:ao!)(H':Hp)(Y':ao!)(s':Sto):g! where
 rep:Rep mg H' Y' s'
 pre:Y <+: Y'
 keep:bJ! (cY! o->b∉Y->(Own H Y b->∀vs,o≠bT!)->H' b=b! o)
 new:∀a∈Y',a∉Y->H a=a!
 mt:∀a∈Y,(IsL H a/\IsL H' a)\/(IsC H a/\IsC H' a/\∀o u,ct! (ec! u)->H' a=b! (ec! u))
 dom:∀b,gf! b->fk!
 ow:∀b,Own H' Y' b->Own H Y b\/fk!
end
section
variable {mg:Gm}{H H' H1 H2:Hp}{Y Y' Y1 Y2:ao!}{s s' s1 s2:Sto}
theorem kO.kind(h:kO mg H Y xs a):IsL H a\/IsC H a:=nt! (λ⟨vs,e,_⟩=>dD! vs) (λh=>nt! (λ⟨k,e,_⟩=>dD! k) (λh=>nt! (λ⟨o,k,_,e,_⟩=>cB! k e) (λh=>nt! (λ⟨k,n,e,_⟩=>a3! k n e) (λ⟨o,k,_,e,_⟩=>cB! k e))))
theorem Rep.mt(r:ek!):∀a∈Y,IsL H a\/IsC H a:=λa ha=>by
 obtain⟨l,hl,e⟩:=gr! ha;have eD:l<aW!:=by rw[<- r.len];exact hl
 obtain⟨b,e1,c⟩:=qH! l (s[l]) (_b eD);rw[_b hl]at e1;rw[<- e,(_p e1)];exact c.kind
theorem Rep.at_(r:ek!){l:Nat} (h:G! s l xs)(ha:G! Y l a)(k:IsL H a):∃vs,ct! bT!/\hE!:=by
 obtain⟨b,e1,c⟩:=qH! l xs h;rw[ha]at e1;cases e1;rcases c with c | c;·exact c
 ·exact b7! (k.notC (c.imp (λ⟨k,e,_⟩=>dD! k) λh=>nt! (λ⟨o,k,_,e,_⟩=>cB! k e) (λh=>nt! (λ⟨k,n,e,_⟩=>a3! k n e) (λ⟨o,k,_,e,_⟩=>cB! k e))))
theorem uh.refl(r:ek!):uh mg H Y H Y s:=⟨r,_dx _,λ_ _ h _ _=>h,λa h1 h2=>bO! h1 h2,λa ha=>(r.mt a ha).imp (λh=>as! h h) λh=>⟨h,h,λ_ _ q=>q⟩,λ_ h=>h,λ_ h=>C! h⟩
theorem uh.trans(a:uh mg H Y H1 Y1 s1)(b:uh mg H1 Y1 H2 Y2 s2):uh mg H Y H2 Y2 s2:=by
 refine⟨b.rep,a.pre.trans b.pre,λc o h n g=>?_,λc h1 h2=>?_,λc hc=>?_,λc h=>a.dom c (b.dom c h),λc h=>(b.ow c h).elim (a.ow c) λz=>T! (a.dom c z)⟩
 ·refine b.keep c o (a.keep c o h n g) (λz=>?_) λz=>?_;·rw[a.new c z n]at h;cases h
  ·rcases a.ow c z with z | z;·exact g z
   ·rw[z]at h;cases h
 ·by_cases h3:c∈Y1;·exact a.new c h3 h2
  ·exact a.dom c (b.new c h1 h3)
 ·have j6 := a.pre.subset hc;rcases a.mt c hc with⟨k1,k2⟩ | ⟨k1,k2,k3⟩
  ·rcases b.mt c j6 with⟨_,q⟩ | ⟨q,_,_⟩;·exact C! ⟨k1,q⟩
   ·exact b7! (k2.notC q)
  ·rcases b.mt c j6 with⟨q,_⟩ | ⟨_,q,q3⟩;·exact b7! (q.notC k2)
   ·exact T! ⟨k1,q,λo u z=>q3 o u (k3 o u z)⟩
theorem uh.stay(stp:uh mg H Y H' Y' s') (h:cY! o)(hn:∀vs,o≠bT!)(eY:∀ah,o≠.dT ah:=by intro vs z;cases z)(hR:∀ah,a4! ah->o≠hd!:=by intro ah g z;cases z<;>exact g rfl):H' b=b! o:=by
 by_cases hb:b∈Y
 ·rcases stp.mt b hb with⟨⟨vs,e⟩,_⟩ | ⟨⟨vs,e⟩ | ⟨p,vs,e⟩ | ⟨vs,g,e⟩ | ⟨p,vs,e⟩,_,q⟩
  ·rw[h]at e;exact bO! (_p e) (hn vs)
  ·rw[h]at e;exact bO! (_p e) (eY vs)
  ·rw[h]at e;cases e;exact q _ _ h
  ·rw[h]at e;exact bO! (_p e) (hR vs g)
  ·rw[h]at e;cases e;exact q _ _ h
 ·exact stp.keep b o h hb (bk! hn)
mutual
theorem Den.mono(stp:uh mg H Y H' Y' s'):∀{d:D}{v:V},fz!->rr! H' Y' d v
 | .non,_,h=>h | .bl _,_,h=>h | .int _,_,h=>h | .str _,_,h=>h | .tup ds,v,h=>by
  change ∃_,_;obtain⟨a,vs,e,h1,h2⟩:=h;exact⟨a,vs,e,stp.stay h1 (by intro vs z;cases z),yo.mono stp h2⟩ | .lst ds,v,h=>by
  change ∃_,_;obtain⟨a,o,vs,e,h1,h2⟩:=h;exact⟨a,o,vs,e,stp.stay h1 (by intro vs z;cases z),yo.mono stp h2⟩ | .dct,v,h=>by
  change ∃_,_;obtain⟨a,e,h1⟩:=h;exact⟨a,e,stp.stay h1 (by intro vs z;cases z)⟩ | .loc l,v,h=>by
  change ∃_,_;obtain⟨a,e,h1,k⟩:=h;obtain⟨t,ht⟩:=stp.pre;refine ck! a e ?_ ?_
  ·rw[<- ht,_H (cV! h1)];exact h1
  ·rcases stp.mt a (_x h1) with⟨_,q⟩ | ⟨q,_,_⟩;·exact q
   ·exact b7! (k.notC q) | .dlo l,v,h=>by
  change ∃_,_;obtain⟨a,e,h1,k⟩:=h;obtain⟨t,ht⟩:=stp.pre;refine ck! a e ?_ ?_
  ·rw[<- ht,_H (cV! h1)];exact h1
  ·rcases stp.mt a (_x h1) with⟨q,_⟩ | ⟨_,q,_⟩;·exact b7! (q.notC k)
   ·exact q | .fn _,_,h=>h | .exc x,v,h=>by
  change ∃_,_;obtain⟨a,C,e,h1,h2⟩:=h;exact⟨a,C,e,h1,stp.stay h2 (by intro vs z;cases z)⟩ | .scr ds,v,h=>by
  change ∃_,_;obtain⟨a,vs,e,h1,h2⟩:=h;exact⟨a,vs,e,h1.imp (λ⟨o,h1⟩=>⟨o,stp.stay h1 (by intro vs z;cases z)⟩) id,yo.mono stp h2⟩
theorem yo.mono(stp:uh mg H Y H' Y' s'):sa! jr! (f7! H' Y' ds vs)
 | [],_,h=>h | d::ds,vs,h=>by
  change ∃_,_;obtain⟨v,r,e,h1,h2⟩:=h;exact⟨v,r,e,Den.mono stp h1,yo.mono stp h2⟩
end
theorem yo.length:sa! jr! (dN!=qI!)
 | [],_,h=>by rw[h];rfl | d::ds,vs,h=>by
  obtain⟨v,r,rfl,_,h2⟩:=h;simp[yo.length h2]
theorem yo.get:∀{ds:List D}{vs:List V}{i:Nat}{d:D},jr!->al! ds d->∃v,al! vs v/\fz!
 | [],_,_,_,_,e=>by cases e | d::ds,vs,0,d',h,e=>by
  obtain⟨v,r,rfl,h1,_⟩:=h;simp at e;subst e;exact⟨v,by rfl,h1⟩ | d::ds,vs,i+1,d',h,e=>by
  obtain⟨v,r,rfl,_,h2⟩:=h;obtain⟨u,h3,h4⟩:=yo.get h2 (by exact e);exact⟨u,by exact h3,h4⟩
theorem yo.append:∀{ds es:List D}{vs us:List V},jr!->f7! H Y es us->f7! H Y (ds++es) (vs++us)
 | [],_,_,_,h,h'=>by subst h;exact h' | d::ds,_,_,_,h,h'=>by
  obtain⟨v,r,rfl,h1,h2⟩:=h;exact g6! v _ h1 (yo.append h2 h')
theorem yo.nil:f7! H Y [] []:=by rfl
theorem yo.cons{d:D} {ds:x!} {v:V} {vs:aG!} (h:fz!) (h':jr!):f7! H Y (d::ds) (v::vs):=g6! v vs h h'
theorem yo.one(h:fz!):f7! H Y [d] [v]:=eX! h cD!
theorem yo.take:∀{ds:List D}{vs:List V}(n:Nat),jr!->f7! H Y (ds.take n) (vs.take n)
 | ds,vs,0,h=>by rfl | [],vs,n+1,h=>by subst h;rfl | d::ds,vs,n+1,h=>by
  obtain⟨v,r,rfl,h1,h2⟩:=h;exact eX! h1 (yo.take n h2)
theorem yo.drop:∀{ds:List D}{vs:List V}(n:Nat),jr!->f7! H Y (ds.drop n) (vs.drop n)
 | ds,vs,0,h=>by exact h | [],vs,n+1,h=>by subst h;rfl | d::ds,vs,n+1,h=>by
  obtain⟨v,r,rfl,h1,h2⟩:=h;exact yo.drop n h2
theorem yo.set:∀{ds:List D}{vs:List V}{d:D}{v:V}(n:Nat),jr!->fz!->f7! H Y (ds.set n d) (vs.set n v)
 | [],vs,_,_,n,h,_=>by subst h;rfl | d::ds,vs,_,_,0,h,h'=>by
  obtain⟨v,r,rfl,h1,h2⟩:=h;exact pr! h' h2 | d::ds,vs,_,_,n+1,h,h'=>by
  obtain⟨v,r,rfl,h1,h2⟩:=h;exact pr! h1 (yo.set n h2 h')
mutual
theorem Den.flatten(k:bJ! (cY! o->(∀vs,o≠bT!)->(∀ah,o≠.dT ah)->(∀ah,a4! ah->o≠hd!)->H' b=b! o)):∀{d:D}{v:V},m0!->fz!->rr! H' Y' d v
 | .non,_,_,h=>h | .bl _,_,_,h=>h | .int _,_,_,h=>h | .str _,_,_,h=>h | .tup ds,v,f,h=>by
  change ∃_,_;obtain⟨a,vs,e,h1,h2⟩:=h;exact⟨a,vs,e,k a _ h1 (by intro vs z;cases z) (by intro vs z;cases z) (by intro vs g z;cases z<;>exact g rfl),yo.flatten k f h2⟩ | .lst ds,v,f,h=>by
  change ∃_,_;obtain⟨a,o,vs,e,h1,h2⟩:=h;exact⟨a,o,vs,e,k a _ h1 (by intro vs z;cases z) (by intro vs z;cases z) (by intro vs g z;cases z<;>exact g rfl),yo.flatten k f h2⟩ | .dct,v,_,h=>by
  change ∃_,_;obtain⟨a,e,h1⟩:=h;exact⟨a,e,k a _ h1 (by intro vs z;cases z) (by intro vs z;cases z) (by intro vs g z;cases z<;>exact g rfl)⟩ | .loc l,v,f,h=>nomatch (f:q!=d!) | .dlo l,v,f,h=>nomatch (f:q!=d!) | .fn _,_,_,h=>h | .exc x,v,_,h=>by
  change ∃_,_;obtain⟨a,C,e,h1,h2⟩:=h;exact⟨a,C,e,h1,k a _ h2 (by intro vs z;cases z) (by intro vs z;cases z) (by intro vs g z;cases z<;>exact g rfl)⟩ | .scr ds,v,f,h=>by
  change ∃_,_;obtain⟨a,vs,e,h1,h2⟩:=h;exact⟨a,vs,e,h1.imp (λ⟨o,h1⟩=>⟨o,k a _ h1 (by intro vs z;cases z) (by intro vs z;cases z) (by intro vs g z;cases z<;>exact g rfl)⟩) id,yo.flatten k f h2⟩
theorem yo.flatten(k:bJ! (cY! o->(∀vs,o≠bT!)->(∀ah,o≠.dT ah)->(∀ah,a4! ah->o≠hd!)->H' b=b! o)):sa! (dj! ds) (jr!->f7! H' Y' ds vs)
 | [],_,_,h=>h | d::ds,vs,f,h=>by
  change ∃_,_;simp only[flC,flN,_S]at f;obtain⟨v,r,e,h1,h2⟩:=h;exact⟨v,r,e,Den.flatten k f.1 h1,yo.flatten k f.2 h2⟩
end
end
def okR{α β:bD!}(mg:Gm)(E:XK)(H:Hp)(Y:ao!)(Dn:Hp->ao!->α->β->g!)(r:R α)(Q:β->bW!):g!:=match r with
 | .ok a s'=>∀b H' Y',uh mg H Y H' Y' s'->Dn H' Y' a b->Q b H' | .ex c s'=>∀H' Y' C,uh mg H Y H' Y' s'->mg.m c=b! ap!->E ap! a! H' | .no=>False
section
variable {α β α2 β2:bD!}{mg:Gm}{E:XK}{H H' H1 H2:Hp}{Y Y' Y1 Y2:ao!}{s s' s1 s2:Sto}{Dn:Hp->ao!->α->β->g!}{Dn2:Hp->ao!->α2->β2->g!}
theorem okR.rebase(h:eW! E H Y Dn r Q)(stp:uh mg H Y H1 Y1 s1):eW! E H1 Y1 Dn r Q:=by cases r with
 | ok a s'=>exact λb H' Y' cf=>h b H' Y' (stp.trans cf) | ex c s'=>exact λH' Y' C cf=>h H' Y' C (stp.trans cf) | no=>exact h
inductive OkB(mg:Gm)(E:XK)(H:Hp)(Y:ao!)(Dn:Hp->ao!->α->β->g!)(Dn2:Hp->ao!->α2->β2->g!)(k:α->ee! α2)(Q:β2->bW!)(b:β)(H1:Hp):g! | mk (Y1:ao!)(s1:Sto)(a:α)(stp:uh mg H Y H1 Y1 s1)(dn:Dn H1 Y1 a b)(h:eW! E H1 Y1 Dn2 (k a s1) Q)
theorem okR.bind(h:eW! E H Y Dn2 (r.bind k) Q): eW! E H Y Dn r (OkB mg E H Y Dn Dn2 k Q):=by cases r with
 | ok a s'=>exact λb H' Y' stp dn=>⟨Y',s',a,stp,dn,okR.rebase h stp⟩ | ex c s'=>exact h | no=>exact h
theorem okR.imp(h:eW! E H Y Dn r Q)(i:∀b H',Q b H'->Q' b H'):eW! E H Y Dn r Q':=by cases r with
 | ok a s'=>exact λb H' Y' stp dn=>i b H' (h b H' Y' stp dn) | ex c s'=>exact h | no=>exact h
theorem okR.here(h:eW! E H Y Dn (k! a) Q)(r:ek!)(d:Dn H Y a b):Q b H:=h b H Y (.refl r) d
end
structure z2E(mg:Gm)(H:Hp)(Y:ao!)(ρ:Ev)(O:L2.St):g! where
 len:qJ!=qj!
 at_:∀(i:Nat)(d:D),al! ρ i!->∃v,al! O bV!/\fz!
theorem z2E.mono(e:hM! H Y O)(stp:uh mg H Y H' Y' s'):hM! H' Y' O:= ⟨e.len,λi d h=>let ⟨v,h1,h2⟩:=e.at_ i d h;⟨v,h1,h2.mono stp⟩⟩
theorem z2E.set(e:hM! H Y O)(h:fz!)(i:Nat):z2E mg H Y (h3! i!) (lb! i):=by
 refine⟨by simp[e.len],λj d' hj=>?_⟩;by_cases aJ:i=j
 ·subst aJ;have hi:i<qJ!:=by simpa using (cV! hj)
  rw[_aj hi]at hj;cases hj;exact⟨v,by rw[_aj (by rw[<- e.len];exact hi)],h⟩
 ·rw[_ac aJ]at hj ⊢;exact e.at_ j d' hj
abbrev FE:=Ev->bi!
abbrev FT:=Ev->ee! cj!
abbrev FA:=Ev->ee! x!
inductive Fl where | nx (ρ:Ev) | rt (d:D) | bk (ρ:Ev) | ct (ρ:Ev)
inductive FlV where | nx (O:L2.St) | rt (v:V) | bk (O:L2.St) | ct (O:L2.St)
abbrev FS:=Ev->ee! Fl
def FlD(mg:Gm)(H:Hp)(Y:ao!):Fl->FlV->g!
 | .nx ρ,.nx O=>hM! H Y O | .rt d,.rt v=>fz! | .bk ρ,.bk O=>hM! H Y O | .ct ρ,.ct O=>hM! H Y O | _,_=>False
def zjn(D:zme):FlV->bW!
 | .nx O,H=>D.nx O H | .rt v,H=>D.rt v H | .bk O,H=>D.bk O H | .ct O,H=>D.ct O H
def bD(_:Hp)(_:ao!)(a b:Bool):g!:=a=b
inductive Wst{α β:bD!}(mg:Gm)(E:XK)(H:Hp)(O:L2.St)(Dn:Hp->ao!->α->β->g!)(f:Ev->ee! α)(Q:β->bW!):g! | mk (Y:ao!)(ρ:Ev)(s:Sto)(r:ek!)(en:hM! H Y O)(h:eW! E H Y Dn ay! Q)
def tE(mg:Gm)(E:XK)(f:FE):TE:=gS! (Wst mg E H O (Den mg) f Q)
def tT(mg:Gm)(E:XK)(f:FT):TT:=gS! (Wst mg E H O bD f Q)
def tA(mg:Gm)(E:XK)(f:FA):TA:=gS! (Wst mg E H O (yo mg) f Q)
def tS(mg:Gm)(E:XK)(f:FS):TS:=lH! (Wst mg E H O (FlD mg) f (zjn D))
def RE(X:Cx)(E:XK)(e:Expr)(f:FE):g!:=W! e (tE M! E f)
def RT(X:Cx)(E:XK)(e:Expr)(f:FT):g!:=PT X e (tT M! E f)
def RA(X:Cx)(E:XK)(es:aI!)(f:FA):g!:=PA X es (tA M! E f)
def RS(X:Cx)(E:XK)(st:Stmt)(f:FS):g!:=PS X st (tS M! E f)
def RSs(X:Cx)(E:XK)(st:nK!)(f:FS):g!:=PSs X st (tS M! E f)
section
variable {X:Cx}{E:XK}{e a b c:Expr}{es:aI!}{pos:Pos}
theorem yp(h:W! e t)(i:∀O H Q,t' O H Q->t O H Q):W! e t':=λae s O H Q I q=>h ae s O H Q I (i O H Q q)
theorem ziJ(h:PT X e t)(i:∀O H Q,t' O H Q->t O H Q):PT X e t':=λae s O H Q I q=>h ae s O H Q I (i O H Q q)
theorem zlS(h:PA X es t)(i:∀O H Q,t' O H Q->t O H Q):PA X es t':=λpos ae s O H Q I q=>h pos ae s O H Q I (i O H Q q)
theorem z0C{st:Stmt} (h:PS X st t)(i:∀D O H,t' D O H->t D O H):PS X st t':=λae s O H D I q=>h ae s O H D I (i D O H q)
theorem zi9{st:nK!} (h:PSs X st t)(i:∀D O H,t' D O H->t D O H):PSs X st t':=λae s O H D I q=>h ae s O H D I (i D O H q)
theorem yR{k:Ev->D->ee! α} {Q:β->bW!} (r:ek!)(en:hM! H Y O) (h:eW! E H Y Dn (ks! (k ρ)) Q)(K:V->bW!) (hK:∀v H1 Y1 s1 d,Rep mg H1 Y1 s1->hM! H1 Y1 O->rr! H1 Y1 d v->uh mg H Y H1 Y1 s1->eW! E H1 Y1 Dn (k ρ d s1) Q->K v H1):tE mg E f O H K:= ⟨Y,ρ,s,r,en,dl! h (λv H1 ⟨Y1,s1,d,stp,dn,q⟩=>hK v H1 Y1 s1 d dO! it! dn stp q)⟩
theorem z79{k:Ev->cj!->ee! α} {Q:β->bW!} (r:ek!)(en:hM! H Y O) (h:eW! E H Y Dn (ks! (k ρ)) Q)(K:cj!->bW!) (hK:∀v H1 Y1 s1,Rep mg H1 Y1 s1->hM! H1 Y1 O->uh mg H Y H1 Y1 s1->eW! E H1 Y1 Dn (k ρ v s1) Q->K v H1):tT mg E f O H K:= ⟨Y,ρ,s,r,en,dl! h (λv H1 ⟨Y1,s1,d,stp,dn,q⟩=>hK v H1 Y1 s1 dO! it! stp (by cases (dn);exact q))⟩
theorem jd{k:Ev->x!->ee! α} {Q:β->bW!} (r:ek!)(en:hM! H Y O) (h:eW! E H Y Dn (ks! (k ρ)) Q)(K:aG!->bW!) (hK:∀v H1 Y1 s1 d,Rep mg H1 Y1 s1->hM! H1 Y1 O->f7! H1 Y1 d v->uh mg H Y H1 Y1 s1->eW! E H1 Y1 Dn (k ρ d s1) Q->K v H1):tA mg E f O H K:= ⟨Y,ρ,s,r,en,dl! h (λv H1 ⟨Y1,s1,d,stp,dn,q⟩=>hK v H1 Y1 s1 d dO! it! dn stp q)⟩
noncomputable def zd(i:Nat):FE:=e2! (match ρ[i]? with | some (some d)=>k! d | _=>.no)
theorem zc(i:Nat) (hN:B! (ga! x))(hv:sJ! x:=by first | exact bb! | exact Or.inr bb! | exact Or.inr bm!)(hd:cp! (x==cP!)) (bz:cp! (x==o! "__classdict__")):Y! m7! (zd i):= yp (zm5 hN hv hd bz) λO H Q ⟨Y,ρ,s,r,en,h⟩=>by
  unfold zd at h;split at h
  ·rename_i d hd;obtain⟨v,h1,h2⟩:=en.at_ i d hd;exact⟨v,h1,e9! h2⟩
  ·exact h.elim
noncomputable def eC(d:D):FE:=λ_ s=>k! d
theorem zp: Y! (mf! U! pos) (E! i):=yp zmN λO H Q ⟨Y,ρ,s,r,en,h⟩=>g5! h (by rfl)
theorem z6a: Y! (mf! (.bool i) pos) (eC (.bl i)):=yp zuf λO H Q ⟨Y,ρ,s,r,en,h⟩=>g5! h (by rfl)
theorem ziE: Y! (mf! ab! pos) (eC aA!):=yp zr0 λO H Q ⟨Y,ρ,s,r,en,h⟩=>g5! h (by rfl)
theorem xU: Y! (g1! i j pos) (bL! i):=yp zmb λO H Q ⟨Y,ρ,s,r,en,h⟩=>g5! h (by rfl)
theorem zr2(hg:fj!)(hm:X.mg x=b! (ci! i))(hd:cp! (x==cP!)):Y! m7! (E! i):= yp (z7u hg hm (show wQ U! (ci! i) from cl! t) hd) λO H Q ⟨Y,ρ,s,r,en,h⟩=>g5! h (by rfl)
def OpF(X:Cx)(E:XK)(r:R2)(op:D->D->bi!):g!:= ∀H Y s d1 d2 v1 v2 (Q:VK),Rep M! H Y s->Den M! H Y d1 v1->Den M! H Y d2 v2->okR M! E H Y ll! (op d1 d2 s) Q->r v1 v2 H Q
noncomputable def eOp(op:D->D->bi!)(fa fb:FE):FE:=ca! (gM! s) (λx s1=>D! gg! (λy s2=>op x y s2))
theorem zfc(ho:cZ! op) (h:tE M! E (eOp op fa fb) O H Q):tOp r (tE M! E fa) (tE M! E fb) O H Q:=by
 obtain⟨Y,ρ,s,r',en,h⟩:=h;exact yR (k:=lO! (D! gg! (λy s2=>op x y s2))) r' en h _ λv H1 Y1 s1 d r1 av dn stp h1=>(yR (k:=fun ρ y s2=>op d y s2) r1 av h1 _ λv2 H2 Y2 s2 d2 r2 aY ax mT h2=>(ho H2 Y2 s2 d d2 v v2 Q r2 (rQ! mT) ax h2))
theorem zwj(ho:gG! op r/\cZ! fo)(ha:gb! a)(hb:Y! b fb):Y! (.BinOp a op b pos) (eOp fo fa fb):= yp (zsr ho.1 ha hb) λO H Q h=>zfc ho.2 h
theorem zsv(ho:d0! op r/\cZ! fo)(ha:gb! a)(hb:Y! b fb)(hm:p1! b=q!):Y! (.Compare a [op] [b] pos) (eOp fo fa fb):= yp (ziy ho.1 ha hb hm) λO H Q h=>zfc ho.2 h
end
end Dd
namespace L2
theorem Inv.freeze{O:L2.St} (I:N!)(h:ct! u)(e:dx! a)(hu:∀xs,u≠af!)(hf:∀o v,u≠ec! v)(ht:∀ps,u≠.tbl ps)(ho:∀y,u≠.own y): cQ! (cf! a (ec! u)) s:=by
 have ne:∀{b:Addr}{v:HO},cY! v->v≠u->b≠a:=λ{b v} hb hv z=>by subst z;rw[h]at hb;exact hv (_p hb).symm
 have stay:∀b v,kC aV! X.w H L! b v->kC aV! X.w (cf! a (ec! u)) L! b v:=λb v q=> q.stay (λ_ _ _ q=>q) (λc q=>by rw[zM (ne q (λz=>ho b jH!))];exact q) λc xs q=>by rw[zM (ne q (λz=>hu xs jH!))];exact q
 exact I.step (ch:=[]) (cv! (bO! hb (by simp))) (λb o _ _ _ e _=>e) (λb o _ _ _ e _=>dD! o.slots) (λb v _ _ n=>by rw[zM (λz=>by subst z;rw[h]at n;cases n)];exact n) (λb o _ e=>dD! o) (λb xs q=>by rw[zM (ne q (λz=>hu xs jH!))];exact q) (λb o' v q=>by rw[zM (ne q (λz=>hf o' v jH!))];exact q) (λb ps q=>⟨#[],by rw[zM (ne q (λz=>ht ps jH!)),q];rfl⟩) (λ_ q=>q) (λb v q=>by
  by_cases hb:b=a
  ·subst hb;rw[yA]at q;cases q;exact⟨e,stay b u (n9! b u h)⟩
  ·rw[zM hb]at q;exact stay b v (n9! b v q)) I.bare
def zkm(Q:VK):VK:=λv H=>∃a xs,v=ag!/\ct! bx!/\∀o,Q v (cf! a (ec! bx!))
theorem EP.freeze(h:EP X ae O (zkm Q) u s):EP X ae O Q u s:=by
 obtain⟨v,H',I,r,a,xs,rfl,ha,q⟩:=h;obtain⟨af,n,rv,e,_⟩:=I.lst ha;exact⟨_,_,I.freeze ha e (by intro _ z;cases z) (by intro _ _ z;cases z) (by intro _ z;cases z) (by intro _ z;cases z),r,q _⟩
theorem OpR.freeze(h:OpR X f r):OpR X f (hQ! (r x y H (zkm Q))):=λae s O H x y v u Q I rx ry q=>thn (h ae s O H x y v u _ I rx ry q) sO!
theorem wo.freeze(h:wo X f r):wo X f (λxs H Q=>r xs H (zkm Q)):=λae s O H xs us Q I rs q=>thn (h ae s O H xs us _ I rs q) sO!
theorem PE.freeze(h:W! e t):W! e (li! O H (zkm Q)):=λae s O H Q I q=>thn (h ae s O H _ I q) sO!
theorem SlR.freeze(h:SlR X r):SlR X (qB! (r x lo hi H (zkm Q))):=λae s O H x v vl vu lo hi sl Q I rx hs pl pu q=>by
 obtain⟨T,id,h1,h2,h3⟩:=h ae s O H x v vl vu lo hi sl _ I rx hs pl pu q;exact⟨T,id,h1,h2,thn h3 sO!⟩
section
variable {X:Cx}
theorem zmS:gG! .Add (hQ! (∃l b xs zs,x=eT!/\y=y! b/\Rd H l bx!/\Rd H b (X! zs)/\w!+zs.length<=aY!/\∀p,gN!->Q cg! (fV! (X! (xs++zs))))):=by
 intro ae s O H x y v u Q I rx ry h;obtain⟨l,b,xs,zs,rfl,rfl,hH,hB,hz,q⟩:=h;cases rx;cases ry;obtain⟨z,af,n,r,e⟩:=hH.ok eZ!;obtain⟨z2,cT,n2,r2,e2⟩:=hB.ok eZ!;have hl:=r.length;have gc:=r2.length;refine PySem.P.add_list e e2 ?_ (by rw[_t,_t];lia);rw[(show fE!++cT.toArray=no! (af++cT) from by simp)];exact⟨y! _,_,I.lnew (r.append r2) (by rw[_as];lia),rfl,q _ I.fresh⟩
end
section
variable {X:Cx}
theorem zkQ:gG! .Add (hQ! (∃a b ys,x=ag!/\y=y! b/\SqT X.K H a []/\SqT X.K H b ys/\Q (y! b) H)):=by
 intro ae s O H x y v u Q I rx ry h;obtain⟨a,b,ys,rfl,rfl,ha,hb,q⟩:=h;cases rx;cases ry;obtain⟨af,r1,p1,_⟩:=lG! ha;obtain⟨cT,r2,p2,_⟩:=lG! hb;cases r1;obtain⟨⟨cls,dd,data,sl⟩,ho,hc,n,hd⟩:=id p1;obtain⟨⟨gI,fV,data2,cE⟩,dD,gJ,n2,eM⟩:=id p2;subst hc hd gJ eM;exact concat_meets (ce! ho) (ce! dD) _dt seq_tuple_add _b2 _bX (_bP _ _) (tuple_addW0 a b _ _ n n2 dd fV sl cE (by rfl)) ⟨ho,dD,br! (y! b) H I q⟩
theorem zoU:SlR X (qB! (∃a xs,x=ag!/\SqT X.K H a xs/\(iq! 0 lo=0/\iq! w! hi=w!)/\Q ag! H)):=by
 intro ae s O H x v vl vu lo hi sl Q I rx hs pl pu h;obtain⟨a,xs,rfl,hx,hw,q⟩:=h;cases rx;obtain⟨af,r,ht,hz⟩:=lG! hx;refine⟨c2!,_,_R.lookup,lL!,?_⟩;obtain⟨os,bX,cS,cO⟩:=id hs;unfold getItem;try with_reducible refine _aT ?_
 refine _a (_c8 lL! (by decide) (_a (_ah lL! _R (_ax _R lL! _cC ?_ (_cS _ _)))));show fR! _ _ (Builtin.Tuple.tupleItemsOf ag! >>= _) _ _;refine _a (tupleItemsOf_ ht (_a (_dM ⟨os,bX,cS⟩ ?_)));refine _a (HT.z0H hs pl pu ?_);rw[(show iS!=w! from by exact r.length.symm),hw.1,hw.2];show fR! _ _ (aF! (0==0&&1==1&&(w!-0)==w!) _ _) _ _;rw[_g (by simp)];exact _a (_a (_dM lL! (_m (_a (_cN (_m (aH! _ (_m (br! ag! H I q)))))))))
end
end L2
namespace Dd
open L2
section
variable {mg:Gm}{H H' H1 H2:Hp}{Y Y' Y1 Y2:ao!}{s s' s1 s2:Sto}
structure Kp(H H':Hp):g! where
 k:bJ! (cY! o->(∀vs,o≠bT!)->(∀ah,o≠.dT ah)->(∀ah,a4! ah->o≠hd!)->H' b=b! o)
 l:∀a,IsL H a->IsL H' a
 c:∀a,IsC H a->IsC H' a
mutual
theorem Den.gen(k:Kp H H')(hi:∀(l:Nat) a,G! Y l a->G! Y' l a):∀{d:D}{v:V},fz!->rr! H' Y' d v
 | .non,_,h=>h | .bl _,_,h=>h | .int _,_,h=>h | .str _,_,h=>h | .tup ds,v,h=>by
  change ∃_,_;obtain⟨a,vs,e,h1,h2⟩:=h;exact⟨a,vs,e,k.k a _ h1 (by intro vs z;cases z) (by intro vs z;cases z) (by intro vs g z;cases z<;>exact g rfl),yo.gen k hi h2⟩ | .lst ds,v,h=>by
  change ∃_,_;obtain⟨a,o,vs,e,h1,h2⟩:=h;exact⟨a,o,vs,e,k.k a _ h1 (by intro vs z;cases z) (by intro vs z;cases z) (by intro vs g z;cases z<;>exact g rfl),yo.gen k hi h2⟩ | .dct,v,h=>by
  change ∃_,_;obtain⟨a,e,h1⟩:=h;exact⟨a,e,k.k a _ h1 (by intro vs z;cases z) (by intro vs z;cases z) (by intro vs g z;cases z<;>exact g rfl)⟩ | .loc l,v,h=>by
  change ∃_,_;obtain⟨a,e,h1,q⟩:=h;exact⟨a,e,hi l a h1,k.l a q⟩ | .dlo l,v,h=>by
  change ∃_,_;obtain⟨a,e,h1,q⟩:=h;exact⟨a,e,hi l a h1,k.c a q⟩ | .fn _,_,h=>h | .exc x,v,h=>by
  change ∃_,_;obtain⟨a,C,e,h1,h2⟩:=h;exact⟨a,C,e,h1,k.k a _ h2 (by intro vs z;cases z) (by intro vs z;cases z) (by intro vs g z;cases z<;>exact g rfl)⟩ | .scr ds,v,h=>by
  change ∃_,_;obtain⟨a,vs,e,h1,h2⟩:=h;exact⟨a,vs,e,h1.imp (λ⟨o,h1⟩=>⟨o,k.k a _ h1 (by intro vs z;cases z) (by intro vs z;cases z) (by intro vs g z;cases z<;>exact g rfl)⟩) id,yo.gen k hi h2⟩
theorem yo.gen(k:Kp H H')(hi:∀(l:Nat) a,G! Y l a->G! Y' l a):sa! jr! (f7! H' Y' ds vs)
 | [],_,h=>h | d::ds,vs,h=>by
  change ∃_,_;obtain⟨v,r,e,h1,h2⟩:=h;exact⟨v,r,e,Den.gen k hi h1,yo.gen k hi h2⟩
end
theorem qw(hp:gN!):∀b u,cY! u->upd H p o b=b! u:=λb u h=>by rw[zM (xx h hp)];exact h
theorem Kp.new(hp:gN!):Kp H (fV! o):=⟨λb u h _ _ _=>qw hp b u h,λa ⟨vs,e⟩=>⟨vs,qw hp a _ e⟩,λa h=>nt! (λ⟨vs,e⟩=>⟨vs,qw hp a _ e⟩) (λh=>nt! (λ⟨o,vs,e⟩=>cB! vs (qw hp a _ e)) (λh=>nt! (λ⟨vs,g,e⟩=>⟨vs,g,qw hp a _ e⟩) (λ⟨o,vs,e⟩=>cB! vs (qw hp a _ e))))⟩
theorem Kp.putL(h:IsL H a):Kp H (cf! a bT!):=by
 obtain⟨ws,e⟩:=h;have ne:∀{b u},cY! u->(∀vs,u≠bT!)->b≠a:=λ{b u} q n z=>by subst z;rw[e]at q;exact n ws (_p q).symm
 refine⟨λb o q n1 n2 _=>by rw[zM (ne q n1)];exact q,λb ⟨us,q⟩=>?_,λb h=>?_⟩
 ·by_cases z:b=a;·subst z;exact as! vs yA
  ·exact⟨us,by rw[zM z];exact q⟩
 ·rcases h with⟨us,q⟩ | ⟨o,us,q⟩ | ⟨us,g,q⟩ | ⟨o,us,q⟩;·exact C! ⟨us,by rw[zM (ne q (by intro _ z;cases z))];exact q⟩
  ·exact T! (C! ⟨o,us,by rw[zM (ne q (by intro _ z;cases z))];exact q⟩)
  ·exact iu! (C! ⟨us,g,by rw[zM (ne q (by intro _ z;cases z))];exact q⟩)
  ·exact T! (iu! ⟨o,us,by rw[zM (ne q (by intro _ z;cases z))];exact q⟩)
theorem zgc.imp: ∀{xs:List D}{ah:List (Key×V)},(∀ys vs k,(gT! [c! k,hz!]∈xs\/gT! [c! k,hz!,aA!]∈xs)->oU! ys->f7! H' Y' ys vs)->(∀k b vs,(k,m3!)∈ah->cY! bT!->H' b=b! bT!)->(∀b o vs,cY! (ec! bT!)->H' b=b! (ec! bT!))->zgc mg H Y xs ah->zgc mg H' Y' xs ah
 | [],_,_,_,_,h=>h | d::ds,ah,g,w,z,h=>by
  obtain⟨k,ys,b,vs,r,rfl,h1,h2,h3⟩:=h;refine⟨k,ys,b,vs,r,rfl,g ys vs k (h2.imp (λq=>by rw[q.1];simp) λq=>by rw[q.1];simp) h1,h2.imp (λq=>⟨q.1,w (pi! k) b vs (by simp) q.2⟩) (λq=>⟨q.1,q.2.imp λo e=>z b o vs e⟩),zgc.imp (λys vs k hm=>g ys vs k (hm.imp (λq=>by simp[q]) λq=>by simp[q])) (λk b vs hm=>w k b vs (by simp[hm])) z h3⟩
theorem zgc.fz: ∀{xs:List D}{ah:List (Key×V)}{k:Key}{b:Addr}{us:List V},zgc mg H Y xs ah->zqB xs->(k,m3!)∈ah->H b=aL! us->nm!
 | [],_,k,b,us,h,f,hm,z=>by subst h;simp at hm | d::ds,ah,k,b,us,h,f,hm,z=>by
  obtain⟨k',ys,b',vs,r,rfl,h1,h2,h3⟩:=h;rcases ep! hm with e | hm
  ·cases e;rcases h2 with⟨q,_⟩ | ⟨_,o,q⟩
   ·obtain⟨k2,zs,e2⟩:=f d iA!;rw[e2]at q;simp at q
   ·rw[q]at z;cases z
  ·exact zgc.fz h3 (il! (f d (.tail _ hd))) hm z
theorem zgc.at_: ∀{xs:List D}{ah:List (Key×V)}{k:Key}{b:Addr},zgc mg H Y xs ah->(k,m3!)∈ah->∃u,cY! u
 | [],_,k,b,h,hm=>by subst h;simp at hm | d::ds,ah,k,b,h,hm=>by
  obtain⟨k',ys,b',vs,r,rfl,h1,h2,h3⟩:=h;rcases ep! hm with e | hm
  ·cases e;rcases h2 with⟨_,q⟩ | ⟨_,o,q⟩<;>exact f9! q
  ·exact zgc.at_ h3 hm
theorem Rep.ownAt(r:ek!) (h:Own H Y b):∃u,cY! u:=by
 obtain⟨a,ha,ah,k,e,hm⟩:=h;obtain⟨l,hl,el⟩:=gr! ha;have eD:l<aW!:=by rw[<- r.len];exact hl
 obtain⟨b',e1,c⟩:=qH! l (s[l]) (_b eD);rw[_b hl]at e1;have := _p e1;subst this;rw[el]at c;rcases c with⟨_,z,_⟩ | ⟨_,z,_⟩ | ⟨_,_,_,z,_⟩ | ⟨bn,_,z,dk⟩ | ⟨_,_,_,z,_⟩<;>rw[e]at z<;>cases z;exact dk.at_ hm
def DkS(H:Hp)(Y:ao!)(H':Hp)(Y':ao!):g!:=∀a∈Y',∀ah,H' a=b! hd!->a∈Y/\ct! hd!
theorem DkS.own(d:DkS H Y H' Y') (h:Own H' Y' b):Own H Y b:=by
 obtain⟨a,ha,ah,k,e,hm⟩:=h;obtain⟨h1,h2⟩:=d a ha ah e;exact⟨a,h1,ah,k,h2,hm⟩
theorem DkS.uq(r:ek!)(d:DkS H Y H' Y'):∀a∈Y',∀a'∈Y',∀ah bn (i j:Nat) k k' b,H' a=b! hd!->H' a'=b! (.dK bn)->al! ah (k,m3!)->G! bn j (k',m3!)->a=a'/\i=j:=λa ha a' ge ah bn i j k k' b e e'=> r.uq a (d a ha ah e).1 a' (d a' ge bn e').1 ah bn i j k k' b (d a ha ah e).2 (d a' ge bn e').2
theorem zaw(h:upd H p o b=a!):fk!:=by
 by_cases z:b=p;·subst z;rw[yA]at h;cases h
 ·rw[zM z]at h;exact h
theorem kO.gen(k:Kp H H')(hi:∀(l:Nat) a,G! Y l a->G! Y' l a)(e:H' a=H a)(ha:a∈Y)(ro:∀b,Own H Y b->b∉Y)(w:∀b vs,b∉Y->cY! bT!->H' b=b! bT!)(h:kO mg H Y xs a):kO mg H' Y' xs a:=by
 rcases h with⟨vs,h1,h2⟩ | ⟨ah,h1,h2⟩ | ⟨o,ah,ys,h1,h2⟩ | ⟨ah,g,h1,h2⟩ | ⟨o,ah,ys,h1,e1,h2,f⟩;·exact C! ⟨vs,mP!,h2.gen k hi⟩
 ·exact T! (C! ⟨ah,mP!,h2⟩)
 ·exact iu! (C! ⟨o,ah,ys,mP!,h2⟩)
 ·exact T! (iu! (C! ⟨ah,g,mP!,h2.imp (λ_ _ _ _ q=>q.gen k hi) (λq b vs hm=>w b vs (ro b ⟨a,ha,ah,q,h1,hm⟩)) λb o vs q=>k.k b _ q (by intro vs z;cases z) (by intro vs z;cases z) (by intro vs g z;cases z)⟩))
 ·exact iu! (iu! ⟨o,ah,ys,mP!,e1,h2.imp (λ_ _ _ _ q=>q.gen k hi) (λq b vs hm z=>b7! (h2.fz f.1 hm z)) λb o vs q=>k.k b _ q (by intro vs z;cases z) (by intro vs z;cases z) (by intro vs g z;cases z),f⟩)
theorem kO.ne(h:kO mg H Y xs a)(hp:gN!):a≠p:=by
 rintro rfl;rcases h.kind with⟨_,e⟩ | ⟨_,e⟩ | ⟨_,_,e⟩ | ⟨_,_,e⟩ | ⟨_,_,e⟩<;>rw[hp]at e<;>cases e
theorem Rep.notin(r:ek!)(hp:gN!):p∉Y:=λz=>by rcases r.mt p z with⟨_,e⟩ | ⟨_,e⟩ | ⟨_,_,e⟩ | ⟨_,_,e⟩ | ⟨_,_,e⟩<;>rw[hp]at e<;>cases e
theorem uh.lay(r:ek!)(hp:gN!)(ho:∀vs,o≠bT!):uh mg H Y (fV! o) Y s:= have d:DkS H Y (fV! o) Y:=λa ha ah e=>⟨ha,by rw[zM (show a≠p from λz=>r.notin hp (z ▸ ha))]at e;exact e⟩;⟨⟨r.len,r.nd,λl xs h=>let ⟨a,h1,h2⟩:=qH! l xs h;⟨a,h1,h2.gen (.new hp) (λ_ _ q=>q) (zM (h2.ne hp)) (_x h1) r.own (λb vs _ q=>qw hp b _ q)⟩,r.flat,λb h=>r.own b (d.own h),d.uq r⟩,_dx _,λb u h _ _=>qw hp b u h,λa h1 h2=>bO! h1 h2,λa ha=>(r.mt a ha).imp (λh=>⟨h,(Kp.new hp).l a h⟩) λh=>⟨h,(Kp.new hp).c a h,λ_ _ e=>qw hp a _ e⟩,λb h=>zaw h,λb h=>C! (d.own h)⟩
theorem uh.layC(r:ek!)(hp:gN!)(hc:kO mg (fV! o) (Y++[p]) xs p)(hf:dj! xs)(ho:∀ah,o≠hd!:=by intro _ z;cases z):uh mg H Y (fV! o) (Y++[p]) (s++[xs]):=by
 have d:DkS H Y (fV! o) (Y++[p]):=λa ha ah e=>by
  by_cases z:a=p;·subst z;rw[yA]at e;exact bO! (_p e) (ho ah)
  ·rw[zM z]at e;exact dD! (m1! ha id (λq=>bO! (by simpa using q) z))
 have hi:∀(l:Nat) a,G! Y l a->G! (Y++[p]) l a:=λl a h=>by rw[_H (cV! h)];exact h
 refine⟨⟨by simp[r.len],?_,λl ys h=>?_,λys h=>?_,λb h=>?_,d.uq r⟩,List.prefix_append _ _,λb u h _ _=>qw hp b u h,λa h1 h2=>?_,λa ha=>(r.mt a ha).imp (λh=>⟨h,(Kp.new hp).l a h⟩) λh=>⟨h,(Kp.new hp).c a h,λ_ _ e=>qw hp a _ e⟩,λb h=>zaw h,λb h=>C! (d.own h)⟩
 ·rw[List.nodup_append];exact⟨r.nd,by simp,λa ha b hb=>by
   have:b=p:=by simpa using hb
   subst this;exact λz=>(r.notin hp) (z ▸ ha)⟩
 ·by_cases hl:l<aW!
  ·rw[_H hl]at h;obtain⟨a,h1,h2⟩:=qH! l ys h;exact⟨a,hi l a h1,h2.gen (.new hp) hi (zM (h2.ne hp)) (_x h1) r.own (λb vs _ q=>qw hp b _ q)⟩
  ·have h0:l=aW!:=by
    have:=cV! h;simp at this;lia
   subst h0;simp at h;subst h;exact⟨p,by rw[<- r.len];simp,hc⟩
 ·rcases nl! h with h | h;·exact r.flat ys h
  ·rw[(show ys=xs from by simpa using h)];exact hf
 ·have q:=d.own h;obtain⟨u,hu⟩:=r.ownAt q;intro z;rcases nl! z with z | z;·exact r.own b q z
  ·rw[(show b=p from by simpa using z),hp]at hu;cases hu
 ·rcases nl! h1 with h | h;·exact bO! h h2
  ·rw[(show a=p from by simpa using h)];exact hp
theorem uh.layL(r:ek!)(hp:gN!)(hd:hE!)(hf:dj! xs):uh mg H Y (fV! bT!) (Y++[p]) (s++[xs]):= uh.layC r hp (C! ⟨vs,yA,hd.gen (.new hp) λl a h=>by rw[_H (cV! h)];exact h⟩) hf
theorem uh.putC(r:ek!)(ha:G! Y l a)(k:Kp H (cf! a o))(hc:kO mg (cf! a o) Y xs a)(hf:dj! xs)(ho:∀ah,o≠hd!:=by intro _ z;cases z):uh mg H Y (cf! a o) Y (s.set l xs):=by
 have d:DkS H Y (cf! a o) Y:=λb hb ah e=>by
  by_cases z:b=a;·subst z;rw[yA]at e;exact bO! (_p e) (ho ah)
  ·rw[zM z]at e;exact dD! hb
 have j7 := _x ha;refine⟨⟨by simp[r.len],r.nd,λj ys h=>?_,λys h=>?_,λb h=>r.own b (d.own h),d.uq r⟩,_dx _,λb u h hn _=>?_,λa h1 h2=>bO! h1 h2,cv! ((r.mt b hb).imp (λh=>⟨h,k.l b h⟩) λh=>⟨h,k.c b h,λ_ _ e=>k.k b _ e (by intro _ z;cases z) (by intro _ z;cases z) (by intro _ _ z;cases z)⟩),λb h=>zaw h,λb h=>C! (d.own h)⟩
 ·by_cases hj:l=j
  ·subst hj;rw[_aj (by rw[<- r.len];exact cV! ha)]at h;cases h;exact a3! a ha hc
  ·rw[_ac hj]at h;obtain⟨b,h1,h2⟩:=qH! j ys h;refine⟨b,h1,h2.gen k (λ_ _ q=>q) (zM ?_) (_x h1) r.own (λc vs hc q=>by rw[zM (show c≠a from λz=>hc (z ▸ j7))];exact q)⟩;rintro rfl;exact hj ((_a2 r.nd).mp (aJ! (oc! ha).2 ((oc! h1).2).symm))
 ·rcases _A h with h | h;·exact r.flat ys h
  ·rw[h];exact hf
 ·rw[zM (λz=>by subst z;exact hn j7)];exact h
theorem uh.put(r:ek!)(ha:G! Y l a)(ka:IsL H a)(hd:hE!)(hf:dj! xs):uh mg H Y (cf! a bT!) Y (s.set l xs):= uh.putC r ha (.putL ka) (C! ⟨vs,yA,hd.gen (.putL ka) λ_ _ q=>q⟩) hf
noncomputable def listOf(s:Sto):D->bq! x!
 | .lst xs=>b! xs | .loc l=>s[l]? | _=>none
noncomputable def zY(s:Sto):D->bq! x!
 | .tup xs=>b! xs | .lst xs=>b! xs | .scr xs=>b! xs | .loc l=>s[l]? | _=>none
inductive RdL(mg:Gm)(H:Hp)(Y:ao!)(v:V)(xs:x!):g! | mk (a:Addr)(vs:aG!)(e:v=ag!)(h:Rd H a bT!)(dn:hE!)
inductive RdS(mg:Gm)(K:W.Frag)(H:Hp)(Y:ao!)(v:V)(xs:x!):g! | mk (a:Addr)(vs:aG!)(e:v=ag!)(h:SqL K H a vs\/SqT K H a vs)(dn:hE!)
inductive RdT(mg:Gm)(K:W.Frag)(H:Hp)(Y:ao!)(v:V)(xs:x!):g! | mk (a:Addr)(vs:aG!)(e:v=ag!)(h:SqT K H a vs)(dn:hE!)
theorem yt(r:ek!)(h:mm! d=b! xs)(dn:fz!):RdL mg H Y v xs:=by cases d with
 | lst ys=>
  simp only[listOf,_y]at h;subst h;obtain⟨a,o,vs,e,h1,h2⟩:=dn;exact⟨a,vs,e,ew! o h1,h2⟩ | loc l=>
  obtain⟨a,e,h1,k⟩:=dn;obtain⟨vs,h3,h4⟩:=r.at_ h h1 k;exact⟨a,vs,e,C! h3,h4⟩ | _=>simp[listOf]at h
theorem zmh(dn:je! (.scr xs) v):∃a vs,v=ag!/\SqL ns! H a vs/\hE!:=by
 obtain⟨a,vs,e,h1,h2⟩:=dn;exact⟨a,vs,e,h1.elim (λ⟨o,h⟩=>C! (ew! o h)) .inr,h2⟩
theorem jI{K:W.Frag} (r:ek!)(h:zY s d=b! xs)(dn:fz!)(hK:B! (ns!=K)):RdS mg K H Y v xs:=by cases d with
 | tup ys=>
  simp only[zY,_y]at h;subst h;obtain⟨a,vs,e,h1,h2⟩:=dn;exact⟨a,vs,e,T! (C! (C! h1)),h2⟩ | lst ys=>
  obtain⟨a,vs,e,h1,h2⟩:=yt (d:=hz!) r h dn;exact⟨a,vs,e,C! (C! h1),h2⟩ | scr ys=>
  simp only[zY,_y]at h;subst h;subst hK;obtain⟨a,vs,e,h1,h2⟩:=zmh dn;exact⟨a,vs,e,C! h1,h2⟩ | loc l=>
  obtain⟨a,vs,e,h1,h2⟩:=yt (d:=db!) r h dn;exact⟨a,vs,e,C! (C! h1),h2⟩ | _=>simp[zY]at h
theorem kP{K:W.Frag} (dn:je! af! v):RdT mg K H Y v xs:=by
 obtain⟨a,vs,e,h1,h2⟩:=dn;exact⟨a,vs,e,C! (C! h1),h2⟩
end
noncomputable def cap:Nat:=100000
theorem z0D(h:n<=cap):n<=aY!:=_G h (by decide)
theorem zrL(h:n<cap):n<aY!:=_j h (by decide)
noncomputable def BIG:Nat:=2 ^ 4096
noncomputable def zn8(x y:D)(s:Sto):R D:=match mm! x,mm! y with
 | some a,some b=>ae! (a.length+ps!<=cap) (bw! (a++b)) | _,_=>.no
def xf:D->D->bi!
 | .int i,.int j,s=>v! (i+j) | .tup a,.tup b,s=>ae! (a.length+ps!<=cap) (a7! (a++b)) | x,y,s=>zn8 x y s
section
variable {X:Cx}{E:XK}
theorem yy(h:je! U! v):v=U!:=h
theorem z0E(h:je! (.bl i) v):v=.bl i:=h
theorem z0P(h:je! (aD! i) v):v=aD! i:=h
theorem yH: je! U! U!:=rfl
theorem wN: je! (.bl i) (.bl i):=rfl
theorem z0N{Q:VK}(r:ek!)(h:eW! E H Y (Den mg) (k! bx!) Q)(hd:hE!):∀p,gN!->zkm Q cg! (fV! bT!):=bs! (by
 refine g6! p vs yA (λo=>?_);rw[znl];have stp:=uh.lay (o:=ec! bT!) r hp (by intro _ z;cases z);exact h _ _ _ stp ⟨p,o,vs,rfl,yA,hd.mono stp⟩)
theorem z4T{Q:VK}(r:ek!)(h:eW! E H Y (Den mg) (k! af!) Q)(hd:hE!):∀p,gN!->Q cg! (fV! (n! vs)):=bs! (by
 have stp:=uh.lay (o:=n! vs) r hp (by intro _ z;cases z);exact h _ _ _ stp (g6! p vs yA (hd.mono stp)))
theorem zdQ{Q:VK}(r:Rep M! H Y s)(h1:Den M! H Y d1 v1)(h2:Den M! H Y d2 v2)(h:okR M! E H Y ll! (zn8 d1 d2 s) Q):∃l b xs zs,v1=V.ref l/\v2=m3!/\Rd H l bx!/\Rd H b (X! zs)/\w!+zs.length<=aY!/\∀p,gN!->zkm Q cg! (fV! (X! (xs++zs))):=by
 unfold zn8 at h;cases ha:mm! d1 with
 | none=>rw[ha]at h;exact b7! (h:nm!) | some a=>
  rw[ha]at h;cases hb:mm! d2 with
  | none=>rw[hb]at h;exact b7! (h:nm!) | some b=>
   rw[hb]at h;obtain⟨l,vs,e,q1,q2⟩:=yt r ha h1;obtain⟨l',eZ,e',gf,dY⟩:=yt r hb h2;have h:okR M! E H Y ll! (ae! (a.length+ps!<=cap) (bw! (a++b))) Q:=h;split at h
   ·rename_i hl;exact⟨l,l',vs,eZ,e,e',q1,gf,by rw[q2.length,dY.length];exact z0D hl,z0N r h (q2.append dY)⟩
   ·exact h.elim
theorem yE:∃r,gG! .Add r/\cZ! xf:=by
 refine bQ! (zqF.or ((zkQ).or ((znC).or (zmS.freeze)))) ?_;intro H Y s d1 d2 v1 v2 Q r h1 h2 h;cases d1 with
 | int i=>cases d2 with
  | int j=>
   cases yy h1;cases yy h2;exact C! (br! i j rfl (g5! h yH)) | _=>exact T! (iu! (zdQ r h1 h2 h))
 | tup a=>cases d2 with
  | tup b=>
   obtain⟨l,vs,rfl,q1,q2⟩:=kP h1;obtain⟨l',eZ,rfl,gf,dY⟩:=kP h2;have h:okR M! E H Y ll! (ae! (a.length+ps!<=cap) (a7! (a++b))) Q:=h;split at h
   ·rename_i hl;cases a with
    | nil=>
     subst q2;exact T! (C! ⟨l,l',eZ,rfl,rfl,q1,gf,e9! h2⟩) | cons x a=>
     refine iu! (C! ⟨l,l',vs,eZ,rfl,rfl,q1,gf,(λz=>by have:=q2.length;rw[z]at this;simp at this),by rw[q2.length,dY.length];exact z0D hl,λz=>?_,λz=>z4T r h (q2.append dY)⟩);have eb:b=[]:=by
      have:=dY.length;rw[z]at this;exact _aY.mp this.symm
     subst eb;rw[_aL]at h;exact e9! h1
   ·exact h.elim | _=>exact T! (iu! (zdQ r h1 h2 h))
 | _=>exact T! (iu! (zdQ r h1 h2 h))
end
noncomputable def dII(g:Int->Int->R D):D->D->bi!
 | .int i,.int j,s=>match g i j with | .ok d _=>k! d | _=>.no
 | _,_,_=>.no
noncomputable def iOk(d:D):R D:=.ok d []
noncomputable def z8T:D->D->bi!:=ml! (iOk (c! (i-j)))
noncomputable def yB:D->D->bi!:=ml! (ae! (eF!<BIG/\ke!<BIG) (iOk (c! (i*j))))
noncomputable def z45:D->D->bi!:=ml! (ae! (0<j/\ke!<BIG) (iOk (c! (i / j))))
noncomputable def zeK:D->D->bi!:=ml! (ae! (0<j) (iOk (c! (i % j))))
noncomputable def zcT:D->D->bi!:=ml! (ae! (0<=j/\dv! j/\eF!<fF!) (iOk (c! (i ^ kS!))))
noncomputable def dLt:D->D->bi!:=ml! (iOk (.bl (eu! i j)))
noncomputable def dLe:D->D->bi!:=ml! (iOk (.bl (jv! i j)))
noncomputable def dGt:D->D->bi!:=ml! (iOk (.bl (eu! j i)))
noncomputable def dGe:D->D->bi!:=ml! (iOk (.bl (jv! j i)))
section
variable {X:Cx}{E:XK}
theorem z1q(h:∀i j d t H Q,g i j=.ok d t->(∀v,(∀H Y,Den M! H Y d v)->Q v H)->r U! (c! j) H Q):cZ! (dII g):=by
 intro H Y s d1 d2 v1 v2 Q rp h1 h2 hq;unfold dII at hq;split at hq
 ·rename_i i j;cases yy h1;cases yy h2;split at hq
  ·rename_i d t e;exact h i j d t H Q e λv hv=>hq.here rp (hv H Y)
  ·exact hq.elim
 ·exact hq.elim
theorem z8s:∃r,gG! .Sub r/\cZ! z8T:=bQ! zpE (l5! (by
 simp only[iOk,R.ok.injEq]at e;exact br! i j rfl (q _ (by intro H Y;rw[<- e.1];exact yH))))
theorem zeV(h:eF!<BIG):Builtin.Int.intBits i<=2 ^ 20:=by
 have q := (PySem.intBits_le_iff ).mpr h;lia
theorem zoJ:nO! (rI (λi j=>eF!<BIG/\ke!<BIG) (mT! (i*j))):=opI λ_ _ _ _ _ _ _ hc q=>mul_int q (IntMulOk.of_bits (zeV hc.1) (zeV hc.2))
theorem va:∃r,nO! r/\cZ! yB:=bQ! zoJ (l5! (by
 split at e
 ·rename_i hc;simp only[iOk,R.ok.injEq]at e;exact⟨i,j,rfl,rfl,hc,q _ (by intro H Y;rw[<- e.1];exact yH)⟩
 ·cases e))
theorem zhi{j:Int}(h:ke!<BIG):j.natAbs.log2<9000:=by
 by_cases h0:ke!=0;·rw[h0];decide +kernel
 ·have := (Nat.log2_lt h0).mpr h;lia
theorem zl4:gG! .FloorDiv (rI (λ_ j=>0<j/\ke!<BIG) (mT! (i / j))):=opI λi j _ _ _ _ _ hc q=>by
 refine floordiv_int (by lia) ?_ (C! (_bR (zhi hc.2)));rw[_bA _ (by lia)];exact q
theorem zc7:∃r,gG! .FloorDiv r/\cZ! z45:=bQ! zl4 (l5! (by
 split at e
 ·rename_i hc;simp only[iOk,R.ok.injEq]at e;exact⟨i,j,rfl,rfl,hc,q _ (by intro H Y;rw[<- e.1];exact yH)⟩
 ·cases e))
theorem zdq:∃r,gG! .Mod r/\cZ! zeK:=bQ! zpR (l5! (by
 split at e
 ·rename_i hc;simp only[iOk,R.ok.injEq]at e;exact⟨i,j,rfl,rfl,hc,q _ (by intro H Y;rw[<- e.1];exact yH)⟩
 ·cases e))
theorem zfQ:∃r,gG! .Pow r/\cZ! zcT:=bQ! zrn (l5! (by
 split at e
 ·rename_i hc;simp only[iOk,R.ok.injEq]at e;exact⟨i,j,rfl,rfl,⟨hc.1,by lia,by lia⟩,q _ (by intro H Y;rw[<- e.1];exact yH)⟩
 ·cases e))
theorem zuM:∃r,d0! .Lt r/\cZ! dLt:=bQ! zuG (l5! (by
 simp only[iOk,R.ok.injEq]at e;exact br! i j rfl (q _ (by intro H Y;rw[<- e.1];exact wN))))
theorem zsB:∃r,d0! .LtE r/\cZ! dLe:=bQ! zsw (l5! (by
 simp only[iOk,R.ok.injEq]at e;exact br! i j rfl (q _ (by intro H Y;rw[<- e.1];exact wN))))
theorem zpl:∃r,d0! .Gt r/\cZ! dGt:=bQ! ztx (l5! (by
 simp only[iOk,R.ok.injEq]at e;exact br! i j rfl (q _ (by intro H Y;rw[<- e.1];exact wN))))
theorem zuI:∃r,d0! .GtE r/\cZ! dGe:=bQ! ztU (l5! (by
 simp only[iOk,R.ok.injEq]at e;exact br! i j rfl (q _ (by intro H Y;rw[<- e.1];exact wN))))
end
mutual
noncomputable def z8e:D->PyData
 | .non=>ab! | .bl b=>lq! | .int i=>U! | .str x=>a1! | .tup xs=>.tuple pb! | .lst xs=>.list pb! | _=>lN! []
noncomputable def toPys:x!->em! PyData
 | []=>[] | d::ds=>z8e d::on! ds
end
theorem zwg(i:Int):z8e U!=U!:=V!
theorem zw6(x:Str):z8e a1!=a1!:=V!
theorem zr1(xs:x!):z8e af!=.tuple pb!:=V!
theorem tPn:on! []=[]:=V!
theorem tPc(d:D)(ds:x!):on! (d::ds)=z8e d::on! ds:=V!
theorem zqY(xs:x!):z8e bx!=.list pb!:=V!
noncomputable def eqD(a b:D):Bool:=PyData.eqv (z8e a) (z8e b)
noncomputable def zjq(d:D):Bool:=SeqAt.shaped (z8e d)
noncomputable def dEq(x y:D)(s:Sto):R D:=ae! (zjq x=d!/\zjq y=d!) (cb! (eqD x y))
noncomputable def dNe(x y:D)(s:Sto):R D:=ae! (zjq x=d!/\zjq y=d!) (cb! (! eqD x y))
section
variable {P:Program}{w:World}{mg:Gm}{H:Hp}{Y:ao!}{h:Heap}
mutual
theorem Den.reads(ok:HOk P w H h):∀{d:D}{v:V}{u:Value},l8! (z8e d)->fz!->wQ v u->∃as,Reads h u (z8e d) as
 | d,v,u,c,dn,r=>by cases d with
  | non=>obtain rfl:=dn;cases r;exact f9! Reads.none | bl b=>obtain rfl:=dn;cases r;exact f9! (Reads.bool b) | int i=>obtain rfl:=dn;obtain⟨t,rfl⟩:=r;exact f9! (Reads.int i t) | str x=>obtain rfl:=dn;obtain⟨t,rfl⟩:=r;exact f9! (Reads.str x t) | tup ds=>
   obtain⟨a,vs,rfl,h1,h2⟩:=dn;cases r;obtain⟨_,af,rv,o,e,hc,_,n,hd⟩:=ok a _ h1;obtain⟨as,q⟩:=yo.reads ok c h2 rv;exact⟨as,Reads.tuple e hc hd (by simpa using q)⟩ | lst ds=>
   obtain⟨a,o,vs,rfl,h1,h2⟩:=dn;cases r;obtain⟨_,_,af,n,rv,e⟩:=ok a _ h1;obtain⟨as,q⟩:=yo.reads ok c h2 rv;exact f9! (Reads.list e rfl rfl (by simpa using q)) | _=>exact nomatch (c:q!=d!)
theorem yo.reads(ok:HOk P w H h):∀{ds:List D}{vs:List V}{us:List Value},PyData.canLayAll0 (on! ds)=d!->jr!->kB! vs->∃as,ReadsAll h us (on! ds) as
 | [],_,_,_,dn,r=>by obtain rfl:=dn;cases r;exact f9! ReadsAll.nil | d::ds,_,_,c,dn,r=>by
  obtain⟨v,vs,rfl,h1,h2⟩:=dn;have c:=nr! c;cases r with | cons r1 r2=>
   obtain⟨as,q⟩:=Den.reads ok c.1 h1 r1;obtain⟨bs,q'⟩:=yo.reads ok c.2 h2 r2;exact f9! (ReadsAll.cons q q')
end
end
section
variable {X:Cx}{E:XK}
def zvE(mg:Gm)(bY:Bool):R2:=hQ! (∃Y d1 d2,je! d1 x/\je! d2 y/\zjq d1=d!/\zjq d2=d!/\Q (.bl (an! bY (! eqD d1 d2) (eqD d1 d2))) H)
theorem zr6(hu:X.A.units+64<np!):d0! .Eq (zvE M! q!):=by
 intro ae s O H x y v u Q I rx ry ⟨Y,d1,d2,h1,h2,p1,p2,q⟩;obtain⟨as,ra⟩:=Den.reads eZ! (_bi p1) h1 rx;obtain⟨bs,rb⟩:=Den.reads eZ! (_bi p2) h2 ry;exact SeqAt.compareEq_shaped ra rb p1 p2 hu (br! (.bl (eqD d1 d2)) H I q)
theorem zrU(hu:X.A.units+64<np!):d0! .NotEq (zvE M! d!):=by
 intro ae s O H x y v u Q I rx ry ⟨Y,d1,d2,h1,h2,p1,p2,q⟩;obtain⟨as,ra⟩:=Den.reads eZ! (_bi p1) h1 rx;obtain⟨bs,rb⟩:=Den.reads eZ! (_bi p2) h2 ry;exact SeqAt.compareNe_shaped ra rb p1 p2 hu (br! (.bl (! eqD d1 d2)) H I q)
theorem z4D(hu:X.A.units+64<np!):∃r,d0! .Eq r/\cZ! dEq:=⟨_,zr6 hu,λH Y s d1 d2 v1 v2 Q r h1 h2 h=>by
 unfold dEq at h;split at h
 ·rename_i hc;exact⟨Y,d1,d2,h1,h2,hc.1,hc.2,e9! wN⟩
 ·exact h.elim⟩
theorem z3R(hu:X.A.units+64<np!):∃r,d0! .NotEq r/\cZ! dNe:=⟨_,zrU hu,λH Y s d1 d2 v1 v2 Q r h1 h2 h=>by
 unfold dNe at h;split at h
 ·rename_i hc;exact⟨Y,d1,d2,h1,h2,hc.1,hc.2,e9! wN⟩
 ·exact h.elim⟩
noncomputable def zbE:D->bq! V
 | .non=>b! aA! | .bl b=>b! (.bl b) | .int i=>cq! | .str x=>b! a1! | _=>none
theorem zc6(h:zbE d=b! w)(dn:fz!):v=w/\z8y v=d!:=by cases d<;>first | (cases h;subst dn;exact cl! rfl) | cases h
noncomputable def z2v:x!->bq! aG!
 | []=>b! [] | d::ds=>match zbE d,z2v ds with | some v,some vs=>b! (v::vs) | _,_=>none
theorem z9o: ∀{ds:List D}{vs ws:List V},z2v ds=b! ws->jr!->vs=ws/\vs.all z8y=d!
 | [],_,_,h,dn=>by cases h;subst dn;exact cl! rfl | d::ds,_,_,h,dn=>by
  obtain⟨v,vs,rfl,h1,h2⟩:=dn;simp only[z2v]at h;split at h
  ·rename_i w ws e1 e2;cases h;obtain⟨a1,a2⟩:=zc6 e1 h1;obtain⟨b1,b2⟩:=z9o e2 h2;exact⟨by rw[a1,b1],by rw[_cm,a2,b2];rfl⟩
  ·cases h
noncomputable def zb0(bY:Bool)(x y:D)(s:Sto):R D:=match zbE x,D! (zY s y) z2v with
 | some v,some vs=>cb! (an! bY (! inV v vs) (inV v vs)) | _,_=>.no
theorem zmE{bY:Bool}:OpF X E (rIn X.K bY) (zb0 bY):=λH Y s d1 d2 v1 v2 Q r h1 h2 h=>by
 unfold zb0 at h;split at h
 ·rename_i v vs e1 e2;cases e3:zY s d2 with
  | none=>rw[e3]at e2;cases e2 | some xs=>
   rw[e3]at e2;obtain⟨a,ws,rfl,q1,q2⟩:=jI r e3 h2;obtain⟨b1,b2⟩:=z9o e2 q2;obtain⟨a1,a2⟩:=zc6 e1 h1;subst a1 b1;exact⟨a,ws,rfl,q1,a2,b2,e9! wN⟩
 ·exact h.elim
theorem zvF:∃r,d0! .In r/\cZ! (zb0 q!):=bQ! ziH zmE
theorem znZ:∃r,d0! .NotIn r/\cZ! (zb0 d!):=bQ! zb3 zmE
noncomputable def dIs:D->D->bi!
 | .bl a,.bl b,s=>cb! (a==b) | .non,.non,s=>cA! | .bl _,.non,s=>c6! | .int _,.non,s=>c6! | .str _,.non,s=>c6! | .tup _,.non,s=>c6! | .lst _,.non,s=>c6! | _,_,_=>.no
theorem zrx:d0! .Is (hQ! (∃a b,x=.bl a/\y=.bl b/\Q (.bl (a==b)) H)):=by
 intro ae s O H x y v u Q I rx ry ⟨a,b,e1,e2,q⟩;subst e1 e2;cases rx;cases ry;exact is_bool (br! (.bl (a==b)) H I q)
theorem zw5:∃r,d0! .Is r/\cZ! dIs:=⟨_,zrx.or zpq,λH Y s d1 d2 v1 v2 Q r h1 h2 h=>by cases d2 with
 | bl b=>cases d1 with
  | bl a=>cases z0E h1;cases z0E h2;exact C! (br! _ _ rfl (g5! h wN)) | _=>exact b7! (show False from h)
 | non=>cases d1 with
  | non=>subst h1 h2;exact ew! rfl (by exact (g5! h wN)) | bl _=>subst h1 h2;exact ew! rfl (by exact (g5! h wN)) | int _=>subst h1 h2;exact ew! rfl (by exact (g5! h wN)) | str _=>subst h1 h2;exact ew! rfl (by exact (g5! h wN)) | tup _=>obtain⟨a,vs,rfl,_⟩:=h1;subst h2;exact ew! rfl (by exact (g5! h wN)) | lst _=>obtain⟨a,o,vs,rfl,_⟩:=h1;subst h2;exact ew! rfl (by exact (g5! h wN)) | _=>exact b7! (show False from h)
 | _=>cases d1<;>exact b7! (show False from h)⟩
noncomputable def dIx(x y:D)(s:Sto):R D:=match y,zY s x with
 | .int i,some xs=>match atI xs i with | some d=>k! d | none=>.no
 | _,_=>.no
theorem zk8(h:hE!)(e:atI xs i=i!):∃v,atI vs i=bV!/\fz!:=by
 unfold atI at e ⊢;rw[h.length];cases q:k5! i with
 | none=>rw[q]at e;cases e | some j=>
  rw[q]at e;exact h.get e
theorem zwW:∃r,IxR X r/\cZ! dIx:=⟨_,znO.or zqT,λH Y s d1 d2 v1 v2 Q r h1 h2 h=>by
 unfold dIx at h;split at h
 ·rename_i i xs e;split at h
  ·rename_i d e2;cases yy h2;obtain⟨a,vs,rfl,q1,q2⟩:=jI r e h1;obtain⟨v,e3,e4⟩:=zk8 q2 e2;rcases q1 with q1 | q1;·exact C! ⟨a,vs,i,v,rfl,rfl,q1,e3,e9! e4⟩
   ·exact T! ⟨a,vs,i,v,rfl,rfl,q1,e3,e9! e4⟩
  ·exact h.elim
 ·exact h.elim⟩
end
section
variable {X:Cx}{E:XK}{e a b c:Expr}{es:aI!}{pos:Pos}
theorem zD(ho:∃r,gG! op r/\cZ! fo)(ha:gb! a)(hb:Y! b fb):Y! (.BinOp a op b pos) (eOp fo fa fb):=let ⟨_,h⟩:=ho;zwj h ha hb
theorem qC(ho:∃r,d0! op r/\cZ! fo)(ha:gb! a)(hb:Y! b fb)(hm:p1! b=q!:=by first | exact zmG _ | rfl):Y! (.Compare a [op] [b] pos) (eOp fo fa fb):=let ⟨_,h⟩:=ho;zsv h ha hb hm
noncomputable def tOf(f:FE):FT:=e2! (eh! (match d with | .bl k=>I! k | _=>.no))
theorem ze8(h:tT M! E (tOf f) O H Q):zqv (tE M! E f) O H Q:=by
 obtain⟨Y,ρ,s,r,en,h⟩:=h;refine yR (k:=kV! (match d with | .bl k=>I! k | _=>.no)) r en h _ λv H1 Y1 s1 d r1 av dn stp h1=>?_;cases d with
 | bl k=>
  cases z0E dn;exact aH! k (rM! rfl) | _=>exact h1.elim
theorem zZ(ho:∃r,d0! op r/\cZ! fo)(ha:gb! a)(hb:Y! b fb)(hm:p1! b=q!:=by first | exact zmG _ | rfl):RT X E (.Compare a [op] [b] pos) (hs! fo fa fb):=by
 obtain⟨r,h1,h2⟩:=ho;exact ziJ (znE h1 ha hb hm) λO H Q h=>zfc h2 (ze8 h)
noncomputable def zfl(fo df:D->D->bi!)(fa fb fc:FE):FE:=ca! (gM! s) (λx s1=>D! gg! (λy s2=>D! (fo x y s2) (λz s3=>match z with
 | .bl true=>D! (fc ρ s3) (λw s4=>df y w s4) | .bl false=>ge! eN! | _=>.no)))
theorem zhY(ho:cZ! fo)(bW:OpF X E r' df) (h:tE M! E (zfl fo df fa fb fc) O H Q):zlP r r' (tE M! E fa) (tE M! E fb) (tE M! E fc) O H Q:=by
 obtain⟨Y,ρ,s,rp,en,h⟩:=h;refine yR (k:=lO! (D! gg! (λy s2=>D! (fo x y s2) (λz s3=>match z with
  | .bl true=>D! (fc ρ s3) (λw s4=>df y w s4) | .bl false=>ge! eN! | _=>.no)))) rp en h _ λv H1 Y1 s1 d r1 av dn stp h1=>(yR (k:=fun ρ y s2=>D! (fo d y s2) (λz s3=>match z with
  | .bl true=>D! (fc ρ s3) (λw s4=>df y w s4) | .bl false=>ge! eN! | _=>.no)) r1 av h1 _ λv2 H2 Y2 s2 d2 r2 aY ax ag h2=>(ho H2 Y2 s2 d d2 v v2 _ r2 me! ax (dl! h2 (λv3 H3 ⟨Y3,s3,d3,aq,cw,h3⟩=>?_))));cases d3 with
 | bl k=>
  cases z0E cw;refine aH! k ?_;cases k with
  | true=> exact yR (k:=fun ρ w s4=>df d2 w s4) aq.rep (aY.mono aq) h3 _ λv4 H4 Y4 s4 d4 r4 hY mU bE h4=>(bW H4 Y4 s4 d2 d4 v2 v4 Q r4 ((ax.mono aq).mono bE) mU h4) | false=> exact om! h3 aq.rep wN
 | _=>exact h3.elim
theorem zoc(ho:∃r,d0! op r/\cZ! fo)(bW:∃r,d0! c8 r/\cZ! df)(ha:gb! a)(hb:Y! b fb)(hc:Y! c fc) (hm:autoParam (lastMarks [op,c8] [b,c]=q!) aWu):Y! (.Compare a [op,c8] [b,c] pos) (zfl fo df fa fb fc):=by
 obtain⟨r,h1,h2⟩:=ho;obtain⟨r',mV,ce⟩:=bW;exact yp (zkP h1 mV ha hb hc hm) λO H Q h=>zhY h2 ce h
noncomputable def zcS(fa fb:FE):FE:=ca! (gM! s) (λx s1=>match x with | .bl true=>gg! | .bl false=>I! eN! | _=>.no)
noncomputable def zsl(fa:FE):FE:=ca! (gM! s) (λx s1=>match x with | .bl k=>I! (.bl (!k)) | _=>.no)
variable {kE:aI!}
theorem z7i(h:Y! a f):Y! (hu! op [a]) f:=zqi h
theorem z5J(ha:gb! a)(hb:Y! (hu! .And (b::kE)) fb):Y! (hu! .And (a::b::kE)) (zcS fa fb):= yp (zpt ha hb) λO H Q ⟨Y,ρ,s,r,en,h⟩=>by
  refine yR (k:=lO! (match x with | .bl true=>gg! | .bl false=>I! eN! | _=>.no)) r en h _ λv H1 Y1 s1 d r1 av dn stp h1=>?_;cases d with
  | bl k=>
   cases z0E dn;refine aH! k ?_;cases k with
   | true=>exact⟨Y1,ρ,s1,r1,av,h1⟩ | false=>exact om! h1 r1 wN
  | _=>exact h1.elim
theorem zqh(ha:gb! a):Y! (.UnaryOp .Not a pos) (zsl fa):= yp (zru ha) λO H Q ⟨Y,ρ,s,r,en,h⟩=>by
  refine yR (k:=lO! (match x with | .bl k=>eG! (D.bl (!k)) s1 | _=>.no)) r en h _ λv H1 Y1 s1 d r1 av dn stp h1=>?_;cases d with
  | bl k=>
   cases z0E dn;exact aH! k (om! h1 r1 wN) | _=>exact h1.elim
noncomputable def zlT(fa fb:FT):FT:=ca! (gM! s) (λx s1=>aF! x gg! (I! q!))
noncomputable def fOr(fa fb:FT):FT:=ca! (gM! s) (λx s1=>aF! x (I! d!) gg!)
noncomputable def qT(fa:FT):FT:=ca! (gM! s) (λx s1=>I! (!x))
def RW(X:Cx)(E:XK)(e:Expr)(f:FT):g!:=PW X e (tT M! E f)
theorem RW.rt(h:RW X E e f):RT X E e f:=PW.pt h
theorem zm3(h:PW X e t)(i:∀O H Q,t' O H Q->t O H Q):PW X e t':=λwh ae s O H Q I q=>h wh ae s O H Q I (i O H Q q)
theorem zhD(h:RT X E a f):RW X E (hu! .And [a]) f:=zoo h
theorem z5A(h:RT X E a f):RW X E (hu! .Or [a]) f:=zqw h
theorem w_and(ha:RT X E a fa)(hb:RW X E (hu! .And (b::kE)) fb):RW X E (hu! .And (a::b::kE)) (zlT fa fb):= zm3 (zqs ha hb) λO H Q ⟨Y,ρ,s,r,en,h⟩=>by
  refine z79 (k:=lO! (aF! x gg! (I! q!))) r en h _ λv H1 Y1 s1 r1 av stp h1=>?_;cases v with
  | true=>exact⟨Y1,ρ,s1,r1,av,h1⟩ | false=>exact rM! rfl
theorem zcU(ha:RT X E a fa)(hb:RW X E (hu! .Or (b::kE)) fb):RW X E (hu! .Or (a::b::kE)) (fOr fa fb):= zm3 (zui ha hb) λO H Q ⟨Y,ρ,s,r,en,h⟩=>by
  refine z79 (k:=lO! (aF! x (I! d!) gg!)) r en h _ λv H1 Y1 s1 r1 av stp h1=>?_;cases v with
  | false=>exact⟨Y1,ρ,s1,r1,av,h1⟩ | true=>exact rM! rfl
theorem qh(ha:RT X E a fa):RT X E (.UnaryOp .Not a pos) (qT fa):= ziJ (zpY ha) λO H Q ⟨Y,ρ,s,r,en,h⟩=>z79 (k:=lO! (I! (!x))) r en h _ λv H1 Y1 s1 r1 av stp h1=>rM! rfl
theorem vH(h:Y! a f)(he:autoParam (∀whole,qq! a az! whole=(do let v <- whole;standAt a.pos;od! [v] (truthy v))) aIr):RT X E a (tOf f):= ziJ (zrj h he) λO H Q h=>ze8 h
noncomputable def eIf(ft:FT)(fa fb:FE):FE:=ca! (ft ρ s) (λx s1=>aF! x (gM! s1) gg!)
theorem zs6(hc:RT X E c ft)(ha:gb! a)(hb:Y! b fb):Y! (.IfExp c a b pos) (eIf ft fa fb):= yp (zkp hc ha hb) λO H Q ⟨Y,ρ,s,r,en,h⟩=>z79 (k:=lO! (aF! x (gM! s1) gg!)) r en h _ λv H1 Y1 s1 r1 av stp h1=>by cases v with
  | true=>exact⟨Y1,ρ,s1,r1,av,h1⟩ | false=>exact⟨Y1,ρ,s1,r1,av,h1⟩
theorem xB(ha:gb! a)(hb:Y! b fb)(hs:zdA b:=by intro _ _;rfl):Y! (mK! a b) (co! fa fb):=by
 obtain⟨r,h1,h2⟩:=zwW;exact yp (zqq h1 ha hb hs) λO H Q h=>zfc h2 h
noncomputable def zi:FA:=λ_ s=>k! []
noncomputable def zb(fa:FE)(fr:FA):FA:=ca! (gM! s) (λx s1=>D! (fr ρ s1) (λxs s2=>ba! (x::xs)))
theorem zg:RA X E [] zi:=zlS z1e λO H Q ⟨Y,ρ,s,r,en,h⟩=>e9! yo.nil
theorem jz(ha:gb! e)(hr:RA X E es fr)(hs:B! (aw! (e::es)=d1!::iD!)):RA X E (e::es) (zb fa fr):= zlS (wV ha hr hs) λO H Q ⟨Y,ρ,s,r,en,h⟩=>by exact yR (k:=lO! (D! (fr ρ s1) (λxs s2=>ba! (x::xs)))) r en h _ λv H1 Y1 s1 d r1 av dn stp h1=>(jd (k:=fun ρ xs s2=>ba! (d::xs)) r1 av h1 _ λvs H2 Y2 s2 ds r2 aY ax ag h2=>(h2.here r2 (pr! me! ax)))
noncomputable def vj(f:FA):FE:=ca! ay! (jI! (ae! jg! (I! af!)))
theorem xw(h:RA X E es f):Y! (hP! es x1 pos) (vj f):= yp (zlO h) λO H Q ⟨Y,ρ,s,r,en,h⟩=>by
  refine jd (k:=nu! (ae! jg! (eG! (gT! xs) s1))) r en h _ λvs H2 Y2 s2 ds r2 aY ax ag h2=>?_;split at h2
  ·rename_i hl;exact⟨by rw[ax.length];exact z0D hl,z4T r2 h2 ax⟩
  ·exact h2.elim
noncomputable def qg(f:FA):FE:=ca! ay! (jI! (ae! jg! (I! bx!)))
theorem wT(h:RA X E es f):Y! (.List es pos) (qg f):= yp (zmH h).freeze λO H Q ⟨Y,ρ,s,r,en,h⟩=>by
  refine jd (k:=nu! (ae! jg! (eG! (D.lst xs) s1))) r en h _ λvs H2 Y2 s2 ds r2 aY ax ag h2=>?_;split at h2
  ·rename_i hl;exact⟨by rw[ax.length];exact z0D hl,z0N r2 h2 ax⟩
  ·exact h2.elim
noncomputable def zaQ(f:FA):FE:=ca! ay! (jI! (ae! (jg!/\dj! xs) (.ok sL! (s1++[xs]))))
theorem zgA{Q:VK}(r:ek!)(h:eW! E H Y (Den mg) (gE! (s++[xs])) Q)(hf:dj! xs)(hd:hE!):∀p,gN!->Q cg! (fV! bT!):=bs! (by exact h _ _ _ (uh.layL r hp hd hf) ⟨p,rfl,by rw[<- r.len];simp,vs,yA⟩)
theorem z8A(h:RA X E es f):Y! (.List es pos) (zaQ f):= yp (zmH h) λO H Q ⟨Y,ρ,s,r,en,h⟩=>by
  refine jd (k:=nu! (ae! (jg!/\dj! xs) (eG! (D.loc s1.length) (s1++[xs])))) r en h _ λvs H2 Y2 s2 ds r2 aY ax ag h2=>?_;split at h2
  ·rename_i hl;exact⟨by rw[ax.length];exact z0D hl.1,zgA r2 h2 hl.2 ax⟩
  ·exact h2.elim
def z2A(X:Cx)(E:XK)(r:aG!->Hp->eU!)(g:x!->bi!):g!:= ∀H Y s ds vs (Q:VK),Rep M! H Y s->yo M! H Y ds vs->okR M! E H Y ll! (g ds s) Q->r vs H Q
noncomputable def ze(g:x!->bi!)(f:FA):FE:=ca! ay! (jI! (g xs s1))
theorem zE{p:Pos} {id:String} (hc:∃r,jR! X id r/\z2A X E r g) (hg:fj!) (hm:dS! x) (hv:lC! x=h4! id) (ha:RA X E (e::es) f) (hn:kj! (mc! x)) (aG:cp! (x==cP!)) (he:B! (aw! (e::es)=d1!::iD!)) (au:eg! es (·.1)):Y! (dw! x p (e::es)) (ze g f):=by
 obtain⟨r,h1,h2⟩:=hc;exact yp (z3E h1 hg hm hv ha hn aG he au) λO H Q ⟨Y,ρ,s,r,en,h⟩=> jd (k:=nu! (g xs s1)) r en h _ λvs H2 Y2 s2 ds r2 aY ax ag h3=>h2 H2 Y2 s2 ds vs Q r2 ax h3
theorem yk{p:Pos} (hc:∃r,wo X kD! r/\z2A X E r g) (hg:fj!) (hm:dS! x) (hv:k4! x kD!) (ha:RA X E (e::es) f) (hn:kj! (mc! x)) (aG:cp! (x==cP!)) (he:B! (aw! (e::es)=d1!::iD!)) (au:eg! es (·.1)):Y! (dw! x p (e::es)) (ze g f):=by
 obtain⟨r,h1,h2⟩:=hc;exact yp (ziA h1 hg hm hv ha hn aG he au) λO H Q ⟨Y,ρ,s,r,en,h⟩=> jd (k:=nu! (g xs s1)) r en h _ λvs H2 Y2 s2 ds r2 aY ax ag h3=>h2 H2 Y2 s2 ds vs Q r2 ax h3
inductive Dn1(mg:Gm)(H:Hp)(Y:ao!)(d:D)(vs:aG!):g! | mk (v:V)(e:vs=[v])(dn:fz!)
inductive Dn2(mg:Gm)(H:Hp)(Y:ao!)(d d':D)(vs:aG!):g! | mk (v v':V)(e:vs=[v,v'])(dn:fz!)(pQ:je! d' v')
theorem z2q(h:oU! [d]):Dn1 mg H Y d vs:=by
 obtain⟨v,r,rfl,h1,rfl⟩:=h;exact aH! v h1
theorem zaV(h:oU! [d,d']):Dn2 mg H Y d d' vs:=by
 obtain⟨v,r,rfl,h1,v',r',rfl,h2,rfl⟩:=h;exact g6! v v' h1 h2
noncomputable def yC:x!->bi!
 | [d],s=>match zY s d with | some xs=>v! w! | none=>.no
 | _,_=>.no
theorem wS:∃r,jR! X "len" r/\z2A X E r yC:=km! zbD (by
 unfold yC at h;split at h
 ·split at h
  ·rename_i d xs e;obtain⟨v,rfl,dn⟩:=lw!;obtain⟨a,ws,rfl,q1,q2⟩:=jI r e dn;exact g6! a ws q1 (by rw[q2.length];exact e9! yH)
  ·exact h.elim
 ·exact h.elim)
noncomputable def zV:x!->bi!
 | [d],s=>match zY s d with | some xs=>k! af! | none=>.no
 | _,_=>.no
theorem yM:∃r,wo X dR! r/\z2A X E r zV:=km! zaF (by match ds,hd,h with
 | [],_,h=>exact h.elim | _::_::_,_,h=>exact h.elim | [d],hd,h=>
  obtain⟨v,rfl,dn⟩:=lw!;simp only[zV]at h;cases e:zY s d with
  | none=>rw[e]at h;exact h.elim | some xs=>
   rw[e]at h;cases d with
   | tup ys=>
    simp only[zY,_y]at e;subst e;obtain⟨a,ws,rfl,q1,q2⟩:=kP dn;exact fO! a ws (ew! q1 (e9! dn)) | lst ys=>
    obtain⟨a,ws,rfl,q1,q2⟩:=yt (d:=hz!) r e dn;exact fO! a ws (C! ⟨C! q1,z4T r h q2⟩) | loc l=>
    obtain⟨a,ws,rfl,q1,q2⟩:=yt (d:=db!) r e dn;exact fO! a ws (C! ⟨C! q1,z4T r h q2⟩) | scr ys=>
    simp only[zY,_y]at e;subst e;obtain⟨a,ws,rfl,q1,q2⟩:=zmh dn;exact fO! a ws (C! ⟨q1,z4T r h q2⟩) | _=>simp[zY]at e)
def z2y:x!->bi!
 | [d],s=>match zY s d with | some xs=>k! bx! | none=>.no
 | _,_=>.no
theorem zbq:∃r,wo X dk! r/\z2A X E r z2y:=km! zcH.freeze (by
 unfold z2y at h;split at h
 ·split at h
  ·rename_i d xs e;obtain⟨v,rfl,dn⟩:=lw!;obtain⟨a,ws,rfl,q1,q2⟩:=jI r e dn;exact g6! a ws q1 (z0N r h q2)
  ·exact h.elim
 ·exact h.elim)
def ze9:x!->bi!
 | [.int i],s=>v! i | [.bl b],s=>v! (an! b 1 0) | _,_=>.no
theorem znR:∃r,wo X (ar! eE!) r/\z2A X E r ze9:=km! zi8 (by
 unfold ze9 at h;split at h
 ·rename_i i;obtain⟨v,rfl,dn⟩:=lw!;cases yy dn;exact C! (aH! i (e9! yH))
 ·rename_i b;obtain⟨v,rfl,dn⟩:=lw!;cases z0E dn;exact T! (aH! b (e9! yH))
 ·exact h.elim)
noncomputable def zkX:x!->bi!
 | [.int i,.int j],s=>v! (an! (j > i) j i) | _,_=>.no
noncomputable def zlh:x!->bi!
 | [.int i,.int j],s=>v! (an! (j<i) j i) | _,_=>.no
theorem zs3(hc:b0!):∃r,jR! X nQ! r/\z2A X E r zkX:=km! (zi0 hc) (by
 unfold zkX at h;split at h
 ·rename_i i j;obtain⟨v,v',rfl,d1,d2⟩:=zaV hd;cases yy d1;cases yy d2;exact fO! i j (e9! yH)
 ·exact h.elim)
theorem zqW(hc:b0!):∃r,jR! X nR! r/\z2A X E r zlh:=km! (zgM hc) (by
 unfold zlh at h;split at h
 ·rename_i i j;obtain⟨v,v',rfl,d1,d2⟩:=zaV hd;cases yy d1;cases yy d2;exact fO! i j (e9! yH)
 ·exact h.elim)
abbrev FO:=Ev->ee! dm!
def oD(_:Hp)(_:ao!)(a b:dm!):g!:=a=b
def tO(mg:Gm)(E:XK)(f:FO):TO:=gS! (Wst mg E H O oD f Q)
def RO(X:Cx)(E:XK)(e:sf!)(f:FO):g!:=PO X e (tO M! E f)
theorem zlQ(h:PO X o t)(i:∀O H Q,t' O H Q->t O H Q):PO X o t':=λae s O H Q I q=>h ae s O H Q I (i O H Q q)
noncomputable def zC:FO:=λ_ s=>k! a!
noncomputable def yx(f:FE):FO:=e2! (eh! (match d with | .int i=>I! h7! | _=>.no))
theorem xD:RO X E a! zC:=zlQ zhC λO H Q ⟨Y,ρ,s,r,en,h⟩=>e9! rfl
theorem xA(h:fA! f):RO X E l! (yx f):=zlQ (zom h) λO H Q ⟨Y,ρ,s,r,en,h⟩=>by
 refine yR (k:=kV! (match d with | .int i=>I! h7! | _=>.no)) r en h _ λv H1 Y1 s1 d r1 av dn stp h1=>?_;cases d with
 | int i=>cases yy dn;exact aH! i (rM! rfl) | _=>exact h1.elim
noncomputable def cutD(xs:x!)(lo hi:dm!):x!:=(lB! (iq! 0 lo)).take (iq! w! hi-iq! 0 lo)
theorem z9Z(h:hE!)(lo hi:dm!):f7! H Y (cutD xs lo hi) (zpf vs lo hi):=by
 unfold cutD zpf;rw[h.length];exact (h.drop _).take _
noncomputable def dSl(x:D)(lo hi:dm!)(s:Sto):R D:=match x with
 | .tup xs=>a7! (cutD xs lo hi) | x=>match mm! x with | some xs=>bw! (cutD xs lo hi) | none=>.no
noncomputable def eSl(fe:FE)(fl fh:FO):FE:=ca! (fe ρ s) (λx s1=>D! (fl ρ s1) (λlo s2=>D! (fh ρ s2) (λhi s3=>dSl x lo hi s3)))
theorem zdG{k:Ev->dm!->ee! α} {Q:β->bW!} (r:ek!)(en:hM! H Y O) (h:eW! E H Y Dn (ks! (k ρ)) Q)(K:dm!->bW!) (hK:∀v H1 Y1 s1,Rep mg H1 Y1 s1->hM! H1 Y1 O->uh mg H Y H1 Y1 s1->eW! E H1 Y1 Dn (k ρ v s1) Q->K v H1):tO mg E f O H K:= ⟨Y,ρ,s,r,en,dl! h (λv H1 ⟨Y1,s1,d,stp,dn,q⟩=>hK v H1 Y1 s1 dO! it! stp (by cases (dn);exact q))⟩
theorem yK{lo hi:sf!} (he:fA! fe)(hl:RO X E lo fl)(hh:RO X E hi fh):Y! (mK! e (.Slice lo hi a! p2)) (eSl fe fl fh):= yp (zeG ((zql.or zoU).or zn5.freeze) he hl hh) λO H Q ⟨Y,ρ,s,r,en,h⟩=>by
  refine yR (k:=lO! (D! (fl ρ s1) (λlo s2=>D! (fh ρ s2) (λhi s3=>dSl x lo hi s3)))) r en h _ λv H1 Y1 s1 d r1 av dn stp h1=>(zdG (k:=fun ρ lo s2=>D! (fh ρ s2) (λhi s3=>dSl d lo hi s3)) r1 av h1 _ λlo H2 Y2 s2 r2 aY ag h2=>?_);refine zdG (k:=fun ρ hi s3=>dSl d lo hi s3) r2 aY h2 _ λhi H3 Y3 s3 r3 mW aq h3=>?_;have cw:=(me!).mono aq;cases d with
  | tup xs=>
   obtain⟨a,vs,rfl,q1,q2⟩:=kP cw;have dZ:okR M! E H3 Y3 ll! (ge! (n! (cutD xs lo hi))) Q:=h3;by_cases hw:oh! dN! 0 lo=0/\oh! dN! dN! hi=dN!
   ·refine C! (T! ⟨a,vs,rfl,q1,hw,?_⟩);rw[(show cutD xs lo hi=xs from by
     unfold cutD;rw[<- q2.length,hw.1,hw.2];simp[q2.length])]at dZ;exact dZ.here r3 cw
   ·exact C! (C! ⟨a,vs,rfl,q1,hw,z4T r3 dZ (z9Z q2 lo hi)⟩) | lst xs=>
   obtain⟨a,vs,rfl,q1,q2⟩:=yt r3 rfl cw;exact T! ⟨a,vs,rfl,C! q1,z0N r3 h3 (z9Z q2 lo hi)⟩ | loc l=>
   simp only[dSl]at h3;split at h3
   ·rename_i xs e;obtain⟨a,vs,rfl,q1,q2⟩:=yt r3 e cw;exact T! ⟨a,vs,rfl,C! q1,z0N r3 h3 (z9Z q2 lo hi)⟩
   ·exact h3.elim | _=>exact h3.elim
end
abbrev Mir:=x!->bi!
def zjT(mg:Gm)(M:Mir):Sp:=λvs H Q E=>∃Y s ds,ek!/\jr!/\eW! E H Y (Den mg) (M ds s) Q
def Has(P:Program)(w:World)(K:W.Frag)(mg:Str->aU!)(base:Heap)(CX:CXT)(x:Str)(n:Nat)(M:Mir):g!:= ∃f fd ps,za7 P w K mg R! CX n f fd ps (zjT ⟨mg,K⟩ M)/\kF! K ps []/\o2! K=d!/\fx! x ft!
section
variable {X:Cx}{E:XK}{e a b c:Expr}{es:aI!}{pos:Pos}{CX:CXT}
theorem zrR{p:Pos} (F:Has aV! X.w X.K fG! fm! CX x n M) (hr:z2G n X.A) (hx:ld! X E) (hg:fj!) (ha:RA X E (e::es) f) (aG:cp! (x==cP!)) (he:B! (aw! (e::es)=d1!::iD!)) (au:eg! es (·.1)):Y! (dw! x p (e::es)) (ze M f):=by
 obtain⟨fa,fd,ps,F,hb,hk,hm⟩:=F;refine yp (znp F hr hg hm hk hb cD! hx ha aG he au) λO H Q ⟨Y,ρ,s,r,en,h⟩=>(jd (k:=nu! (M xs s1)) r en h _ λvs H2 Y2 s2 ds r2 aY ax ag h3=>?_);rw[_aL];exact⟨Y2,s2,ds,r2,ax,h3⟩
noncomputable def zy(f g:FS):FS:=ca! ay! (λfl s1=>match fl with | .nx ρ'=>g ρ' s1 | fl=>I! fl)
noncomputable def yU:FS:=e2! (aN! ρ)
variable {st:Stmt}{rs:nK!}
theorem zqQ{D:zme} (h:tS mg E (zy f g) D O H):zvt (tS mg E f) (tS mg E g) D O H:=by
 obtain⟨Y,ρ,s,r,en,h⟩:=h;refine⟨Y,ρ,s,r,en,dl! h (λfv H1 ⟨Y1,s1,fl,stp,dn,q⟩=>?_)⟩;cases fl with
 | nx ρ'=> cases fv with
  | nx O'=>exact⟨Y1,ρ',s1,dO!,dn,q⟩ | _=>exact b7! dn
 | rt d=> cases fv with
  | rt v=>exact okR.here (Q:=zjn D) q stp.rep dn | _=>exact b7! dn
 | bk ρ'=> cases fv with
  | bk v=>exact okR.here (Q:=zjn D) q stp.rep dn | _=>exact b7! dn
 | ct ρ'=> cases fv with
  | ct v=>exact okR.here (Q:=zjn D) q stp.rep dn | _=>exact b7! dn
theorem yz:RSs X E [] yU:=zi9 znb λD O H ⟨Y,ρ,s,r,en,h⟩=>okR.here (b:=nv! O) h r en
theorem zh(h1:RS X E st f)(h2:RSs X E rs g):RSs X E (st::rs) (zy f g):=zi9 (zjC h1 h2) λD O H h=>zqQ h
theorem zn(h1:RS X E st f):RSs X E [st] f:=zna h1
noncomputable def fNo:FS:=λ_ _=>.no
theorem z6u:RS X E st fNo:=z0C zjM λD O H ⟨_,_,_,_,_,h⟩=>h
noncomputable def wq(f:FE):FS:=ca! ay! (λ_ s1=>gH! ρ)
theorem ve(he:fA! f)(hs:B! (mG! e a! oe!=mQ!)):RS X E (.Expr e pos) (wq f):= z0C (zoj he hs) λD O H ⟨Y,ρ,s,r,en,h⟩=>yR (k:=fun ρ _ s1=>eG! (Fl.nx ρ) s1) r en h _ λv H1 Y1 s1 d r1 av dn stp h1=>okR.here (b:=nv! O) h1 r1 av
noncomputable def xb(f:FE):FS:=e2! (eh! (I! (.rt d)))
theorem zP(he:fA! f):RS X E (.Return l! pos) (xb f):= z0C (zq1 he) λD O H ⟨Y,ρ,s,r,en,h⟩=>yR (k:=kV! (eG! (Fl.rt d) s1)) r en h _ λv H1 Y1 s1 d r1 av dn stp h1=>okR.here (b:=FlV.rt v) h1 r1 dn
noncomputable def fIf(ft:FT)(f g:FS):FS:=ca! (ft ρ s) (λx s1=>aF! x (f ρ s1) (g ρ s1))
theorem kS(hc:RT X E c ft)(ha:RSs X E as f)(hb:RSs X E bs g):RS X E (.If c as bs pos) (fIf ft f g):= z0C (zuU hc ha hb) λD O H ⟨Y,ρ,s,r,en,h⟩=>z79 (k:=lO! (aF! x (f ρ s1) (g ρ s1))) r en h _ λv H1 Y1 s1 r1 av stp h1=>by cases v with
  | true=>exact⟨Y1,ρ,s1,r1,av,h1⟩ | false=>exact⟨Y1,ρ,s1,r1,av,h1⟩
abbrev FG:=D->Ev->ee! Ev
inductive WsG(mg:Gm)(E:XK)(v:V)(H:Hp)(O:L2.St)(f:FG)(Q:L2.St->bW!):g! | mk (Y:ao!)(ρ:Ev)(s:Sto)(d:D)(r:ek!)(en:hM! H Y O)(dn:fz!)(h:eW! E H Y (z2E mg) (f d ρ s) (λO' H'=>Q O' H'))
noncomputable def tG(mg:Gm)(E:XK)(f:FG):TG:=λv O H Q=>WsG mg E v H O f Q
def RG(X:Cx)(E:XK)(tg:Expr)(f:FG):g!:=PG X tg (tG M! E f)
theorem zgu(h:PG X tg t)(i:∀v O H Q,t' v O H Q->t v O H Q):PG X tg t':=λae s O H v u Q I r q=>h ae s O H v u Q I r (i v O H Q q)
noncomputable def yh(i:Nat):FG:=λd ρ s=>k! (h3! i!)
theorem qL(i:Nat) (hN:X.N.Nodup)(hi:B! (ga! x))(hx:kq! (gZ! x))(hf:g0! (f8! x\/e7! x)):RG X E m7! (yh i):= zgu (zK hN hi hx hf) λv O H Q ⟨Y,ρ,s,d,r,en,dn,h⟩=>g5! h (en.set dn i)
noncomputable def yS(i j:Nat):FG:=λd ρ s=>match d with | .tup [x,y]=>k! (g8! (h3! fd!) j y) | _=>.no
theorem z2Y(i j:Nat){x y:Str}{px py:Pos}{kt:Nat}(hc:b0!)(hN:X.N.Nodup)(hi:B! (ga! x))(hj:B! (G! X.N j y))(hx:kq! (gZ! x))(hy:kq! (gZ! y)) (hf:g0! (f8! x\/e7! x))(e9:g0! (f8! y\/e7! y)): RG X E (jc! [fq! px,gj!] pos) (yS i j):= zgu (ziv hc (z0t (zK hN hi hx hf) (z0t (zK hN hj hy e9) zdN))) λv O H Q ⟨Y,ρ,s,d,r,en,dn,h⟩=>by
  unfold yS at h;split at h
  ·obtain⟨p,vs,rfl,q1,q2⟩:=kP dn;obtain⟨v1,v2,rfl,e1,e2⟩:=zaV q2;exact⟨p,[v1,v2],rfl,q1,rfl,v1,[v2],rfl,v2,[],rfl,rfl,g5! h ((en.set e1 i).set e2 j)⟩
  ·exact h.elim
noncomputable def yw(i:Nat)(f:FE):FS:=e2! (eh! (gH! (h3! i!)))
theorem zW(i:Nat) {cA:Pos} (hN:X.N.Nodup)(he:fA! f)(hi:B! (ga! x))(hx:kq! (gZ! x))(hs:B! (mG! e (b! (fq! cA)) oe!=mQ!)) (hf:g0! (f8! x\/e7! x)):RS X E (.Assign [fq! cA] e pos) (yw i f):= z0C (zrN hN hi hx he hs hf) λD O H ⟨Y,ρ,s,r,en,h⟩=>yR (k:=kV! (eG! (Fl.nx (h3! i!)) s1)) r en h _ λv H1 Y1 s1 d r1 av dn stp h1=>okR.here (b:=nv! (lb! i)) h1 r1 (av.set dn i)
noncomputable def zgj(f:FE)(g:FG):FS:=e2! (eh! (D! (g d ρ s1) (fun ρ' s2=>H! ρ' s2)))
theorem z9G(he:fA! f)(hg:RG X E tg g)(hs:B! (r0! [tg] e az!=mQ!))(hw:B! (r3! [tg] e=d3! a!)) (h1:B! ((oO! [tg]).map (·.2)=[assign tg az!])):RS X E (.Assign [tg] e pos) (zgj f g):= z0C (zm8 he hg hs hw h1) λD O H ⟨Y,ρ,s,r,en,h⟩=>yR (k:=kV! (D! (g d ρ s1) (fun ρ' s2=>eG! (Fl.nx ρ') s2))) r en h _ λv H1 Y1 s1 d r1 av dn stp h1=> ⟨Y1,ρ,s1,d,r1,av,dn,dl! h1 (λO' H' ⟨Y2,s2,ρ',ag,aY,q⟩=>okR.here (b:=nv! O') q ag.rep aY)⟩
noncomputable def zsj(i j:Nat)(f:FA):FS:=ca! ay! (iT! (match ds with | [x,y]=>gH! (g8! (h3! fd!) j y) | _=>.no))
theorem zrB(i j:Nat){x y:Str}{px py pt:Pos}{kt k2:Nat}{dX:Pos} (hc:b0!)(hN:X.N.Nodup)(ha:RA X E [a,b] f)(hi:B! (ga! x))(hj:B! (G! X.N j y))(aJ:kj! (i≠j)) (hx:B! (e7! x))(hy:B! (e7! y)) (hw:B! (r3! [jc! [fq! px,gj!] pt] (hP! [a,b] k2 dX)=d3! (b! [x,y]))) (hs:B! (r0! [jc! [fq! px,gj!] pt] (hP! [a,b] k2 dX) az!=mQ!)): RS X E (.Assign [jc! [fq! px,gj!] pt] (hP! [a,b] k2 dX) pos) (zsj i j f):= z0C (zqE hc hN hi hj aJ hx hy ha hw hs) λD O H ⟨Y,ρ,s,r,en,h⟩=>by
  refine jd (k:=fun ρ ds s1=>match ds with | [x,y]=>eG! (Fl.nx (g8! (h3! fd!) j y)) s1 | _=>.no) r en h _ λvs H1 Y1 s1 ds r1 av dn stp h1=>?_;match ds,dn,h1 with
  | [],_,h1=>exact h1.elim | [_],_,h1=>exact h1.elim | _::_::_::_,_,h1=>exact h1.elim | [d1,d2],dn,h1=>
   obtain⟨v1,v2,rfl,e1,e2⟩:=zaV dn;exact fO! v1 v2 (okR.here (b:=nv! (g8! (O.set i (b! v1)) j v2)) h1 r1 ((av.set e1 i).set e2 j))
noncomputable def z1k(fo fi fv:FE):FS:=ca! (fv ρ s) (λd s1=>D! (fo ρ s1) (λo s2=>D! (fi ρ s2) (λi s3=>match o,i with
 | .loc l,.int k=>match s3[l]? with
  | some xs=>match k5! k with
   | some j=>ae! m0! (H! ρ (s3.set l (iL! j d))) | none=>.no
  | none=>.no
 | _,_=>.no)))
theorem zb7:∀{xs:List D}{d:D}{j:Nat},dj! xs->m0!->dj! (iL! j d)
 | [],_,_,_,_=>rfl | x::xs,d,0,h,hd=>by
  simp only[flC,flN,_S,_F]at h ⊢;exact as! hd h.2 | x::xs,d,j+1,h,hd=>by
  simp only[flC,flN,_S,_L]at h ⊢;exact⟨h.1,zb7 h.2 hd⟩
theorem z5d:∀{xs ys:List D},dj! xs->dj! ys->dj! (xs++ys)
 | [],_,_,h=>h | x::xs,ys,h,h'=>by
  simp only[flC,flN,_S,_bF]at h ⊢;exact⟨h.1,z5d h.2 h'⟩
theorem z1n(hv:fA! fv)(ho:Y! o fo)(hi:Y! i fi) (ha:∀v,assign (rF! o i) az! v=(do
   let ov <- od! [v] gI! let iv <- od! [v,ov] (hr! i)
   standAt p1
   od! [v,ov,iv] (setItem ov iv v)
   release [v,ov,iv] []):=by intro _;rfl) (hs:B! (r0! [rF! o i] e az!=mQ!))(hw:B! (r3! [rF! o i] e=d3! a!)) (h1:B! ((oO! [rF! o i]).map (·.2)=[assign (rF! o i) az!])):RS X E (.Assign [rF! o i] e pos) (z1k fo fi fv):= z0C (zm8 hv (zpn ho hi set_list ha) hs hw h1) λD O H ⟨Y,ρ,s,r,en,h⟩=>by
  refine⟨Y,ρ,s,r,en,dl! h (λv H1 ⟨Y1,s1,d,stp,dn,h1⟩=>⟨Y1,ρ,s1,dO!,it!,dl! h1 (λov H2 ⟨Y2,s2,od,ag,ax,h2⟩=>⟨Y2,ρ,s2,jJ!,(it!).mono ag,dl! h2 (λiv H3 ⟨Y3,s3,id,aq,cw,h3⟩=>?_)⟩)⟩)⟩;have dv:=(me!).mono aq;have mX:=ax.mono aq;cases od with
  | loc l=> cases id with
   | int k=>
    simp only at h3;split at h3
    ·rename_i xs ex;split at h3
     ·rename_i j ej;split at h3
      ·rename_i hf;cases yy cw;obtain⟨a,rfl,e1,ka⟩:=mX;obtain⟨vs,q1,q2⟩:=aq.rep.at_ ex e1 ka;have bE:=uh.put aq.rep e1 ka (q2.set j dv) (zb7 (aq.rep.flat xs (_x ex)) hf);exact⟨a,vs,k,j,rfl,rfl,q1,by rw[q2.length];exact ej,h3 (.nx O) _ _ bE ((((it!).mono ag).mono aq).mono bE)⟩
      ·exact h3.elim
     ·exact h3.elim
    ·exact h3.elim | _=>exact h3.elim
  | _=>exact h3.elim
noncomputable def zdv(fo fv:FE):FE:=ca! (fo ρ s) (λo s1=>match o with
 | .loc l=>D! (fv ρ s1) (λd s2=>match s2[l]? with
  | some xs=>ae! (m0!/\w!<cap) (.ok aA! (oo! l (xs++[d]))) | none=>.no)
 | _=>.no)
theorem z0n{ao:Pos} (ho:Y! o fo)(hv:fA! fv)(am:B! (l7! o "append" gI!=gI!)) (aH:dq! (hD! (hX! pos [e]) (! x.1)&&hD! (nF! pos [] az!) (gq! x.1) && bl! (t! [e]+t! ([]:g2!)+(nG! ([]:g2!) 0 1)<30))) (ai:dq! (sy! oe!))(hs:B! (aw! [e]=d1!::aw! []))(aw:eg! [] (·.1)): Y! (fJ! (mN! o "append") [e] [] pos) (zdv fo fv):= yp (zoN _bY PySem.F.slot_list_append PySem.F.type_list_append zi4 ho (wV hv z1e hs) am aH ai hs aw) λO H Q ⟨Y,ρ,s,r,en,h⟩=>by
  refine⟨Y,ρ,s,r,en,dl! h (λov H1 ⟨Y1,s1,od,stp,dn,h1⟩=>?_)⟩;cases od with
  | loc l=>
   refine as! (by
    obtain⟨a,rfl,e1,vs,e2⟩:=dn;exact C! ⟨rfl,vs,C! (C! e2)⟩) ⟨Y1,ρ,s1,dO!,it!,dl! h1 (λv H2 ⟨Y2,s2,d,ag,ax,h2⟩=>?_)⟩;split at h2
   ·rename_i xs ex;split at h2
    ·rename_i hf;obtain⟨a,rfl,e1,ka⟩:=me!;obtain⟨vs,q1,q2⟩:=ag.rep.at_ ex e1 ka;refine⟨a,vs,v,rfl,rfl,q1,by rw[q2.length];exact zrL hf.2,h2 aA! _ _ (uh.put jJ! e1 ka (q2.append (yo.one ax)) (z5d (ag.rep.flat xs (_x ex)) (by simp[flC,flN,hf.1]))) (by rfl)⟩
    ·exact h2.elim
   ·exact h2.elim | _=>exact h1.elim
end
end Dd
namespace L2
theorem zrc(hl:W! l tl):PI X tg l (λO H R=>tl O H (hO! (∃a,x=ag!/\(((∃xs,SqL X.K H1 a xs)/\R (Itl X.K a) H1)\/((∃xs,SqT X.K H1 a xs)/\R (Itt X.K a) H1))))):=by
 refine λae s O H R I h=>thn (hl ae s O H _ I h) λv s1 ⟨x,H1,I1,r1,q1⟩=>?_;obtain⟨a,e,q⟩:=q1;subst e;cases r1;rcases q with⟨⟨xs,hq⟩,q⟩ | ⟨⟨xs,hq⟩,q⟩
 ·obtain⟨af,rv,p,hz⟩:=I1.list hq;refine wpAny_pyIter_list p.isList ⟨iR!,[iR!],_,_,H1,rfl,of! (mj! _ e),zhZ a _,fO! _ hh! rfl,cv! ?_,q⟩;have e:b=iR!:=by simpa using hb
  subst e;exact r1! am! am!
 ·obtain⟨af,rv,p,hz⟩:=I1.tuple hq;refine wpAny_pyIter_tuple (p) ⟨iR!,[iR!],_,_,H1,rfl,of! (mj! _ e),zg7 a _,fO! _ hh! rfl,cv! ?_,q⟩;have e:b=iR!:=by simpa using hb
  subst e;exact r1! am! am!
theorem z5T.freeze(h:z5T X ae O C (zkm Q) acc s'):z5T X ae O C Q acc s':=by
 obtain⟨v,Hf,I,r,⟨a,xs,rfl,ha,q⟩,hm,f⟩:=h;obtain⟨af,n,rv,e,_⟩:=I.lst ha;refine⟨_,_,I.freeze ha e (by intro _ z;cases z) (by intro _ _ z;cases z) (by intro _ z;cases z) (by intro _ z;cases z),r,q _,hm,?_,f.2⟩;rw[zM (λz=>by have:=f.1;rw[z,ha]at this;cases this)];exact f.1
theorem zd9{pos aF py:Pos} (N':aq!)(mp:fa!)(hN:X.N.Nodup)(hy:ga! y)(cI:gZ! y) (hc:b0!)(hi:PI X tg ii! wi)(hg:mg! cC! tg g)(ht:md! cC! aC ti)(he:∀ex s H,PE cC! az te) (aV:kw!)(aR:∀y∈scope.names,kc! y.1=b! y.2) (aI:∀y∈scope.names,y.2=bY!->fY! y.1=dH!\/fY! y.1=b! bY!)(aX:kM! N' mp=d!) (hs:lv! (lm! x=lu!)) (cJ:B! (mG! (gi! [gK! 0]) (b! gj!) qF!=rJ!)) (hf:g0! (f8! y\/e7! y)): PS X (.Assign [gj!] (gi! [gK! 0]) aF) (lH! (zll wi mp g ti te O H (zkm λv H'=>D.nx (lb! i) H'))):=by
 intro ae s O H D I h;rw[exec_Assign_Name_used _ _ _ _ cJ];refine _a (_cl (_a (_a (_aa (_bQ rfl hs (z0q λy hy hf=>I.ok.has _ (aI y hy hf)) aV (λy hy hl=>by rw[aR y hy,hl]) (thn (hi ae s O H _ I h) λxv s₁ h₁=>thn h₁ λeI s₂ h₂=>?_)) (λ_ s' hq=>_m (_m hq)) λ_ _ e=>e))));obtain⟨it,fp,tn,J,H2,e,I2,T,bj,f2,W,w0,turn⟩:=h₂;subst e;refine z47 hc hg ht he aV aR aI aX I2 T bj f2 W w0 turn ?_;intro acc C s' hd;obtain⟨v,Hf,I3,r,q,⟨m,hm⟩,f⟩:=hd.freeze;exact _c5 (z7J I3 hN hy cI r (λeJ I4 ⟨a,sb,ha⟩=>⟨m,hm.sameBut sb (by
  rcases ha with z | z;·rw[z];exact f.2.1
  ·exact _bT (f.2.2.2.2.1 y a z)),λh' hJ=>⟨_,Hf,z2D I4 f hJ,q⟩⟩) hf)
end L2
namespace Dd
open L2
noncomputable abbrev ItD:=x!×i1! Nat x!
def okG(g:i1! Nat x!)(all:x!)(s:Sto):g!:=∀p∈g,G! s p.1 p.2
def zuo(mg:Gm)(H0:Hp)(Y0:ao!)(a:ItD)(J:It):g!:=∀H Y s,uh mg H0 Y0 H Y s->okG a.2 a.1 s->∀i:Nat, (∀d,al! a.1 d->J.go i H/\∀x H',J.yld i H x H'->∃Y',uh mg H Y H' Y' s/\rr! H' Y' d x)/\(t! a.1<=i->J.stop i H)
abbrev FI:=Ev->ee! ItD
def tI(mg:Gm)(E:XK)(f:FI):TI:=λO H Rr=>Wst mg E H O (zuo mg) f Rr
def RI(X:Cx)(E:XK)(tg it:Expr)(f:FI):g!:=PI X tg it (tI M! E f)
section
variable {X:Cx}{E:XK}{e a b c tg:Expr}{es:aI!}{pos:Pos}{CX:CXT}
theorem z8N(h:PI X tg it t)(i:∀O H Q,t' O H Q->t O H Q):PI X tg it t':=λae s O H Q I q=>h ae s O H Q I (i O H Q q)
noncomputable def zQ(f:FE):FI:=e2! (eh! (match d with
 | .tup xs=>I! (xs,[]) | .lst xs=>I! (xs,[]) | .loc l=>match s1[l]? with | some xs=>I! (xs,[(l,xs)]) | none=>.no
 | _=>.no))
theorem wj(h:fA! f):RI X E tg e (zQ f):=z8N (zrc h) λO H Q ⟨Y,ρ,s,r,en,h⟩=>by
 refine⟨Y,ρ,s,r,en,dl! h (λv H1 ⟨Y1,s1,d,stp,dn,h1⟩=>?_)⟩;have lst:∀(a:Addr)(xs:List D)(g:List (Nat×List D)),(∀H2 Y2 s2,uh M! H1 Y1 H2 Y2 s2->okG g xs s2->∃ws,SqL X.K H2 a ws/\yo M! H2 Y2 xs ws)->zuo M! H1 Y1 (xs,g) (Itl X.K a):=λa xs g hq H2 Y2 s2 ag hg i=>by
  obtain⟨ws,q1,q2⟩:=hq H2 Y2 s2 ag hg;refine⟨il! ?_,λhl=>⟨ws,q1,by rw[q2.length];exact hl⟩⟩;obtain⟨v,e1,e2⟩:=q2.get hd;refine⟨ck! ws v q1 e1,λx H' ⟨e3,y⟩=>?_⟩;subst e3;have e4:=y ws q1;rw[e1]at e4;cases e4;exact⟨Y2,.refl jJ!,e2⟩
 have tup:∀(a:Addr)(xs:List D),(∀H2 Y2 s2,uh M! H1 Y1 H2 Y2 s2->∃ws,SqT X.K H2 a ws/\yo M! H2 Y2 xs ws)->zuo M! H1 Y1 (xs,[]) (Itt X.K a):=λa xs hq H2 Y2 s2 ag hg i=>by
  obtain⟨ws,q1,q2⟩:=hq H2 Y2 s2 ag;refine⟨il! ?_,λhl=>⟨ws,q1,by rw[q2.length];exact hl⟩⟩;obtain⟨v,e1,e2⟩:=q2.get hd;refine⟨ck! ws v q1 e1,λx H' ⟨e3,y⟩=>?_⟩;subst e3;have e4:=y ws q1;rw[e1]at e4;cases e4;exact⟨Y2,.refl jJ!,e2⟩
 cases d with
 | tup xs=>
  obtain⟨a,vs,rfl,q1,q2⟩:=kP dn;refine aH! a (ew! (as! vs q1) (oQ! (tup a xs λH2 Y2 s2 ag=>?_)));obtain⟨a',ws,e,q3,q4⟩:=kP me!;cases e;exact a3! ws q3 q4 | lst xs=>
  obtain⟨a,vs,rfl,q1,q2⟩:=yt dO! rfl dn;refine aH! a (C! ⟨⟨vs,C! q1⟩,oQ! (lst a xs [] λH2 Y2 s2 ag _=>?_)⟩);obtain⟨a',ws,e,q3,q4⟩:=yt jJ! rfl me!;cases e;exact⟨ws,C! q3,q4⟩ | loc l=>
  simp only at h1;split at h1
  ·rename_i xs ex;obtain⟨a,vs,rfl,q1,q2⟩:=yt (d:=db!) stp.rep ex dn;refine aH! a (C! ⟨⟨vs,C! q1⟩,oQ! (lst a xs [(l,xs)] λH2 Y2 s2 ag hg=>?_)⟩);obtain⟨a',ws,e,q3,q4⟩:=yt (d:=db!) ag.rep (hg (l,xs) (by simp)) me!;cases e;exact⟨ws,C! q3,q4⟩
  ·exact h1.elim | _=>exact h1.elim
end
section
variable {X:Cx}{E:XK}{e a b c tg:Expr}{es:aI!}{pos:Pos}{CX:CXT}
noncomputable def yr(n:Nat):x!:=aT! n (λ(k:Nat)=>aP! (aa! k))
noncomputable def jV(f:FA):FI:=ca! ay! (iT! (match ds with
 | [.int j]=>ae! (-(2 ^ 62)<=j/\j<2 ^ 62) (I! (sk!,[])) | _=>.no))
theorem wf(hg:o8!)(hm:dS! fD!)(ha:RA X E [a] f)(hs:B! (aw! [a]=[d6! a])):RI X E tg (dw! fD! p [a]) (jV f):= z8N (zj2 hg hm ha hs) λO H Q ⟨Y,ρ,s,r,en,h⟩=>by
  refine⟨Y,ρ,s,r,en,dl! h (λvs H1 ⟨Y1,s1,ds,stp,dn,h1⟩=>?_)⟩;split at h1
  ·rename_i j;split at h1
   ·rename_i hj;obtain⟨v,rfl,d1⟩:=z2q dn;cases yy d1;refine⟨j,rfl,hj.1,hj.2,oQ! (λH2 Y2 s2 ag _ i=>⟨il! ?_,λhl=>?_⟩)⟩
    ·have hi:i<kS!:=by simpa[yr] using (cV! hd)
     refine⟨hi,λx H' ⟨e1,e2⟩=>?_⟩;subst e1 e2;refine⟨Y2,.refl jJ!,?_⟩;rw[(show d=aP! i from by
      simp only[yr,_D,_aH hi,_ai,_y]at hd;exact hd.symm)];exact _au V.int (_aP _)
    ·rw[<- (show t! sk!=kS! from by simp[yr])];exact hl
   ·exact h1.elim
  ·exact h1.elim
open Classical in
noncomputable def yT(g:i1! Nat x!)(all:x!)(body:D->Ev->ee! Fl):x!->Ev->ee! Fl
 | [],ρ,s=>ae! (okG g all s) (aN! ρ) | x::xs,ρ,s=>ae! (okG g all s) (D! (body x ρ s) (λfl s1=>match fl with
   | .nx ρ'=>yT g all dM! xs ρ' s1 | .ct ρ'=>yT g all dM! xs ρ' s1 | .bk ρ'=>gH! ρ' | .rt d=>I! (.rt d)))
noncomputable def z5X(fi:FI)(fg:FG)(fb:FS):FS:=ca! (fi ρ s) (λit s1=>yT it.2 it.1 (eO! (fg d ρ s) (fb ρ' s')) it.1 ρ s1)
inductive WkF(mg:Gm)(E:XK)(D:zme)(H1:Hp)(Y1:ao!)(n:Nat)(G:Nat->Ev->ee! Fl)(i m:Nat)(O:L2.St)(H:Hp):g! | mk {Y:ao!}{ρ:Ev}{s:Sto}(st:uh mg H1 Y1 H Y s)(en:hM! H Y O)(hm:m=n-i)(hi:i<=n)(h:eW! E H Y (FlD mg) (G i ρ s) (zjn D)):WkF mg E D H1 Y1 n G i m O H
theorem z0K(hp:PassesOwn (oX! X.w) X.A az! X.xe)(hc:b0!)(hi:RI X E tg ii! fi)(hg:RG X E tg fg)(hb:RSs X E dM! fb) (hs:lv! (lm! x=lu!)):RS X E (.For tg ii! dM! [] pos) (z5X fi fg fb):= z0C (zqG hp hc hi hg hb hs) λD O H ⟨Y,ρ,s,r,en,h⟩=>by
  refine⟨Y,ρ,s,r,en,dl! h (λJ H1 ⟨Y1,s1,it,stp,ok,h1⟩=>?_)⟩;obtain⟨items,g⟩:=it;refine⟨WkF M! E D H1 Y1 iU! λi ρ s=>yT g hm! (eO! (fg d ρ s) (fb ρ' s')) (items.drop i) ρ s, ⟨iU!,.mk (.refl dO!) it! rfl gL! h1⟩,λi m O H w=>?_⟩;cases w with | @mk Y2 ρ2 s2 ag aY hm hil h2=>
  subst hm;by_cases bv:i<iU!
  ·right;rw[_bJ bv,yT]at h2;split at h2
   ·rename_i hG;obtain⟨go,yl⟩:=((ok H Y2 s2 ag hG i).1 items[i] (_b bv));refine⟨go,WkF M! E D H1 Y1 iU! (λi ρ s=>yT g hm! (eO! (fg d ρ s) (fb ρ' s')) (items.drop i) ρ s) (i+1) (iU!-(i+1)), λO' H' w=>⟨iU!-(i+1),by omega,w⟩,λx H' y=>?_⟩;obtain⟨Y3,aq,cw⟩:=yl x H' y;refine⟨Y3,ρ2,s2,items[i],aq.rep,aY.mono aq,cw,dl! (okR.bind (Dn:=FlD M!) (okR.rebase h2 aq)) (λO5 H5 ⟨Y5,s5,ρ5,bL,en5,h5⟩=>?_)⟩;refine⟨Y5,ρ5,s5,bL.rep,en5,h5.imp λfv H6 ⟨Y6,s6,fl,ci,cP,q6⟩=>?_⟩;have ff := aJ! (ag.trans aq) ci;cases fl with
    | nx ρ'=> cases fv with
     | nx O'=>exact .mk ff cP rfl bv q6 | _=>exact b7! cP
    | ct ρ'=> cases fv with
     | ct O'=>exact .mk ff cP rfl bv q6 | _=>exact b7! cP
    | bk ρ'=> cases fv with
     | bk O'=>exact okR.here (b:=nv! O') q6 ci.rep cP | _=>exact b7! cP
    | rt d=> cases fv with
     | rt v=>exact okR.here (Q:=zjn D) q6 ci.rep cP | _=>exact b7! cP
   ·exact h2.elim
  ·left;have e:i=iU!:=by omega
   subst e;rw[List.drop_length,yT]at h2;split at h2
   ·rename_i hG;exact⟨(ok H Y2 s2 ag hG _).2 am!,okR.here (b:=nv! O) h2 ag.rep aY⟩
   ·exact h2.elim
end
end Dd
namespace Zz
def Sit(b:Bool)(h:Heap)(it l:Addr)(k:Nat):g!:=match b with
 | true=>h.IsListIter it l k | false=>h.IsTupleIter it l k
def Sco(b:Bool)(h:Heap)(l:Addr)(xs:cF!):g!:=match b with
 | true=>h.IsList l xs | false=>h.IsTuple l xs
theorem Sit.to(x:Sit b h it l k)(e:∀o,cK! it->dK! it):Sit b h' it l k:=by cases b with
 | true=>obtain⟨o,ho,r⟩:=x;exact cB! (e _ ho) r | false=>obtain⟨o,ho,r⟩:=x;exact cB! (e _ ho) r
theorem Sco.to(x:Sco b h l xs)(e:∀o,cK! l->dK! l):Sco b h' l xs:=by cases b with
 | true=>obtain⟨o,ho,r⟩:=x;exact cB! (e _ ho) r | false=>obtain⟨o,ho,r⟩:=x;exact cB! (e _ ho) r
theorem Sit.lt(x:Sit b h it l k):it<jA!:=by cases b with
 | true=>obtain⟨o,ho,r⟩:=x;exact _s ho | false=>obtain⟨o,ho,r⟩:=x;exact _s ho
theorem Sit.ob(x:Sit b h it l k):∃o,cK! it/\∀v,ih!≠.cell v:=by cases b with
 | true=>obtain⟨o,ho,_,d⟩:=x;exact cB! ho (λv z=>by rw[d]at z;cases z) | false=>obtain⟨o,ho,_,d⟩:=x;exact cB! ho (λv z=>by rw[d]at z;cases z)
section
variable {P:Program}{w:World}{A:Around}{E:b1!}{s:Shared}
theorem zpQ{it l:Addr}{k:Nat}{xs:cF!}{x:Value}{R:b1!}(h1:s.heap.IsTupleIter it l k)(h2:s.heap.IsTuple l xs)(e:G! xs k x) (q:∀h',h'.IsTupleIter it l (k+1)->Heap.SameBut it L! h'->R x {s with heap:=h'}):gu! P w A (sv! it) R E s:=by
 obtain⟨o,ho,hc,hd⟩:=id h1;obtain⟨ol,ib,_,nl,ic⟩:=h2;refine _a (_ah h1.typeIs _a3 (_ax _a3 h1.typeIs F.entry_tuple_iterator_next ?_ (F.args_tuple_iterator_next_1 _)));show fR! _ _ (field kE! 0 >>= _) _ _;refine _a (p7! ho hd ?_);refine _a (p7! ho hd (_a (_a4 ib ic ?_)));simp only[_W,e];exact _a (wpAny_setField ho hd (by simp) (_m (aH! x (_m (q _ ⟨_,Heap.get?_update_self _ ho (Obj.isFreed_of_fields (Obj.data_mapFields hd _)),aJ! (Obj.cls_mapFields ..) hc,by rw[Obj.data_mapFields hd];rfl⟩ (_bM ..))))))
theorem zfJ{it l:Addr} {k:Nat} {xs:cF!} {R:b1!} (hh:nH!) (h1:s.heap.IsTupleIter it l k) (h2:s.heap.IsTuple l xs) (e:xs[k]? = a!) (q:∀h' e,Heap.ExtBut it L! h'->(∃o,dK! e/\gp!=sz!)->E ez! {s with heap:=h'}):gu! P w A (sv! it) R E s:=by
 obtain⟨o,ho,hc,hd⟩:=id h1;obtain⟨ol,ib,_,nl,ic⟩:=h2;refine _a (_ah h1.typeIs _a3 (_ax _a3 h1.typeIs F.entry_tuple_iterator_next ?_ (F.args_tuple_iterator_next_1 _)));show fR! _ _ (field kE! 0 >>= _) _ _;refine _a (p7! ho hd (_a (p7! ho hd ?_)));refine _a (_a4 ib ic ?_);simp only[_W,e];refine _a (_cN (_a (wpAny_setField ho hd (by simp) (_a ?_))));refine _a (_aI ?_ (by size_fits));refine _a (wpAny_of_eq (by rfl) (_aI (_a (wpAny_handled ?_)) (by size_fits)));rw[hh];exact _a (_m (wpAny_throw (q _ _ (dg! ((_bM ..).extBut.push _) _) (ce! hh!))))
theorem nx{b:Bool}{it l:Addr}{k:Nat}{xs:cF!}{x:Value}{R:b1!}(h1:Sit b L! it l k)(h2:h1! b l xs)(e:G! xs k x) (q:∀h',Sit b h' it l (k+1)->Heap.SameBut it L! h'->R x {s with heap:=h'}):gu! P w A (sv! it) R E s:=by cases b with
 | true=>exact wpAny_nextOf_list_item h1 h2 e q | false=>exact zpQ h1 h2 e q
theorem zha{b:Bool} {it l:Addr} {k:Nat} {xs:cF!} {R:b1!} (hh:nH!) (h1:Sit b L! it l k) (h2:h1! b l xs) (e:xs[k]? = a!) (q:∀h' e,Heap.ExtBut it L! h'->(∃o,dK! e/\gp!=sz!)->E ez! {s with heap:=h'}):gu! P w A (sv! it) R E s:=by cases b with
 | true=>exact wpAny_nextOf_list_end hh h1 h2 e q | false=>exact zfJ hh h1 h2 e q
theorem zH(hs:Heap.SameBut a h h') (n:b≠a)(e:cK! b):dK! b:=hs.extBut _ _ n e
theorem znj{z TI TO i1 i2 l1 l2:Addr} {b1 b2:Bool} {k:Nat} {xs ys:cF!} {x y a b:Value} {Q:aU!->eL!} (D:ZipApart z TI TO i1 i2 l1 l2) (hz:IsZip L! z TI TO ab!) (bM:lP! L! TI (y! i1) (y! i2)) (bT:lP! L! TO a b) (h1:Sit b1 L! i1 l1 k) (h2:Sit b2 L! i2 l2 k) (c1:h1! b1 l1 xs) (c2:h1! b2 l2 ys) (ex:G! xs k x) (ey:G! ys k y) (q:∀h',IsZip h' z TI TO (rawInt at!)->lP! h' TO x y->Sit b1 h' i1 l1 (k+1)->Sit b2 h' i2 l2 (k+1)->lP! h' at! x y->h'.objs.size=dZ!-> (∀c o,c≠z->c≠TO->c≠i1->c≠i2->dx! c->dK! c)->Q (b! f4!) {s with heap:=h'}):gu! P w A (pl! (y! z)) Q E s:=by
 have hT:pp! (y! z) iJ!:=ce! hz;unfold pyNext;refine _a (_dn (_ah hT _cz (_ax _cz hT F.entry_zip_next ?_ (F.args_zip_next_1 _))));show wpAny _ _ (field (y! z) 2 >>= _) _ _ _;refine _a (j4! hz ?_);refine _a (j4! hz ?_);refine _a (_a4 bM rfl ?_);refine _a ?_;unfold Builtin.SmallTypes.ownedTupleIsFree;refine _a (j4! hz (_m ?_));simp only[_v];refine _a (_cN ?_);refine _a (j4! hz ?_);refine _a (_ao hz (by simp) λg1 z1 s1=>?_);replace z1 := z1;refine _a ?_;refine _a (_a (_do ?_));refine _a (nx (h1.to (j1! s1 D.i1z e)) (c1.to (j1! s1 D.l1z e)) ex λg2 t2 s2=>_m ?_);have o2 := zH s2 D.TOi1 (zH s1 D.TOz bT);refine _a (_a4 o2 rfl ?_);refine _a (_cp o2 λg3 o3 s3=>?_);replace o3 := o3;refine _a (sP! ?_);refine _a (_a (_do ?_));refine _a (nx (h2.to (j1! s3 D.TOi2.symm (zH s2 D.i12.symm (zH s1 D.i2z e)))) (c2.to (j1! s3 D.l2TO (zH s2 D.l2i1 (zH s1 D.l2z e)))) ey λg4 t4 s4=>_m ?_);have o4 := zH s4 D.TOi2 o3;refine _a (_a4 o4 rfl ?_);refine _a (_cp o4 λg5 o5 s5=>?_);replace o5:lP! g5 TO x y:=o5;refine _a (sP! (_m ?_));refine _a (_a4 o5 rfl ?_);refine _a (_cT ?_);have sz:g5.objs.size=at!:=by rw[s5.1,s4.1,s3.1,s2.1,s1.1]
 have z5 := zH s5 D.TOz.symm (zH s4 D.i2z.symm (zH s3 D.TOz.symm (zH s2 D.i1z.symm z1)));have t5:Sit b1 g5 i1 l1 (k+1):=t2.to (j1! s5 D.TOi1.symm (zH s4 D.i12 (zH s3 D.TOi1.symm e)));have u5:Sit b2 g5 i2 l2 (k+1):=t4.to (j1! s5 D.TOi2.symm e);have zl := _s z5;refine _a ?_;have z6:IsZip (g5.push {cls:=dR!,data:=.seq #[x,y]}) z TI TO .ellipsis:=_i _ z5;refine _a (_ao z6 (by simp) λg7 z7 s7=>?_);replace z7 := z7;refine _ao z7 (by simp) λg8 z8 s8=>?_;replace z8 := z8;have up:∀c o,c≠z->g5.get? c=b! o->g8.get? c=b! o:=λc o n e=>zH s8 n (zH s7 n (_i _ e));have p8 := zH s8 (_cE zl) (zH s7 (_cE zl) hh!);have e8:g8.objs.size=g5.objs.size+1:=by rw[s8.1,s7.1,_aK]
 rw[sz]at z8 p8 e8;refine _m (aH! _ (_m ?_));show Q (b! (y! g5.objs.size)) _;rw[sz];exact q g8 z8 (up _ _ D.TOz o5) (t5.to λo e=>up _ o D.i1z e) (u5.to λo e=>up _ o D.i2z e) p8 e8 λc o n1 n2 n3 n4 e=>up c o n1 ((λc o n1 n2 n3 n4 e=>zH s5 n2 (zH s4 n4 (zH s3 n2 (zH s2 n3 (zH s1 n1 e))))) c o n1 n2 n3 n4 e)
theorem zrt{z TI TO i1 i2 l1 l2:Addr}{b1 b2:Bool}{k:Nat}{xs ys:cF!}{a b:Value}{Q:aU!->eL!}(hh:nH!)(D:ZipApart z TI TO i1 i2 l1 l2) (hz:IsZip L! z TI TO ab!)(bM:lP! L! TI (y! i1) (y! i2))(bT:lP! L! TO a b) (h1:Sit b1 L! i1 l1 k)(h2:Sit b2 L! i2 l2 k)(c1:h1! b1 l1 xs)(c2:h1! b2 l2 ys)(en:xs[k]? = a!\/ys[k]? = a!) (q:∀h',(∀c o,c≠z->c≠TO->c≠i1->c≠i2->dx! c->dK! c)->Q a! {s with heap:=h'}):gu! P w A (pl! (y! z)) Q E s:=by
 have hT:pp! (y! z) iJ!:=ce! hz;have fin:∀h' e,(∀c o,c≠z->c≠TO->c≠i1->c≠i2->dx! c->dK! c)->(∃o,dK! e/\gp!=sz!)-> gu! P w A (isInstance ez! sz! >>= λb=>aF! b (d3! a!) (throw ez!)) Q E ({s with heap:=h'}):=λh' e hk he=>by
  obtain⟨o,ho,hc⟩:=he;exact _a (wpAny_isInstance (cB! ho hc) isSubtype_stop (_m (q _ hk)))
 refine _a (_dn (_ah hT _cz (_ax _cz hT F.entry_zip_next ?_ (F.args_zip_next_1 _))));show wpAny _ _ (field (y! z) 2 >>= _) _ _ _;refine _a (j4! hz ?_);refine _a (j4! hz (_a (_a4 bM rfl ?_)));refine _a ?_;refine _a (j4! hz (_m ?_));refine _a (_cN ?_);refine _a (j4! hz (_a (_ao hz (by simp) λg1 z1 s1=>?_)));refine _a ?_;refine _a (_a (_do ?_));cases ex:xs[k]? with
 | none=>
  refine _a (zha hh (h1.to (j1! s1 D.i1z e)) (c1.to (j1! s1 D.l1z e)) ex λg2 e s2 he=>?_);obtain⟨oe,dG,fj⟩:=he;have z2 := s2 _ _ D.i1z.symm z1;exact _ao z2 (by simp) λg3 _ s3=>fin g3 e (λc o n1 _ n3 _ t=>zH s3 n1 (s2 _ _ n3 (zH s1 n1 t))) ⟨oe,zH s3 (λt=>by subst t;rw[z2]at dG;cases dG;simp at fj) dG,fj⟩ | some x=>
  refine _a (nx (h1.to (j1! s1 D.i1z e)) (c1.to (j1! s1 D.l1z e)) ex λg2 t2 s2=>_m ?_);have o2 := zH s2 D.TOi1 (zH s1 D.TOz bT);refine _a (_a4 o2 rfl ?_);refine _a (_cp o2 λg3 o3 s3=>(_a (sP! ?_)));refine _a (_a (_do ?_));refine _a (zha hh (h2.to (j1! s3 D.TOi2.symm (zH s2 D.i12.symm (zH s1 D.i2z e)))) (c2.to (j1! s3 D.l2TO (zH s2 D.l2i1 (zH s1 D.l2z e)))) (by rcases en with t | t;rw[ex]at t;cases t;exact t) λg4 e s4 he=>?_);obtain⟨oe,dG,fj⟩:=he;have z4:IsZip g4 z TI TO .ellipsis:=s4 _ _ D.i2z.symm (zH s3 D.TOz.symm (zH s2 D.i1z.symm z1));exact _ao z4 (by simp) λg5 _ s5=>fin g5 e (λc o n1 n2 n3 n4 t=>zH s5 n1 (s4 _ _ n4 (zH s3 n2 (zH s2 n3 (zH s1 n1 t))))) ⟨oe,zH s5 (λt=>by subst t;rw[z4]at dG;cases dG;simp at fj) dG,fj⟩
end
noncomputable def itO(b:Bool)(l:Addr):Obj:=match b with
 | true=>{cls:=ar! "list_iterator",data:=eY! #[eT!,bE! 0 0]} | false=>{cls:=ar! "tuple_iterator",data:=eY! #[eT!,bE! 0 0]}
theorem zby(e:eK! a (itO b l)):Sit b h a l 0:=by cases b with
 | true=>exact fO! _ e rfl | false=>exact fO! _ e rfl
theorem z69(b:Bool)(l:Addr):(itO b l).isFreed=q!:=by cases b<;>rfl
section
variable {P:Program}{w:World}{A:Around}{E:b1!}{s:Shared}
theorem z90(h:h1! b l xs) (q:Q f4! {s with heap:=mE! b l}):gu! P w A (pyIter eT!) Q E s:=by cases b with
 | true=>exact wpAny_pyIter_list h q | false=>exact wpAny_pyIter_tuple h q
end
noncomputable abbrev G1(b1:Bool)(h:Heap)(l1:Addr):Heap:=h.push (itO b1 l1)
noncomputable abbrev G2(b1 b2:Bool)(h:Heap)(l1 l2:Addr):Heap:=dg! (G1 b1 h l1) (itO b2 l2)
noncomputable abbrev G3(b1 b2:Bool)(h:Heap)(l1 l2:Addr):Heap:=dg! (G2 b1 b2 h l1 l2) ({cls:=dR!,data:=.seq #[y! jA!,y! (eo! (G1 b1 h l1))]})
noncomputable abbrev G4(b1 b2:Bool)(h:Heap)(l1 l2:Addr):Heap:=dg! (G3 b1 b2 h l1 l2) ({cls:=dR!,data:=.seq #[ab!,ab!]})
noncomputable abbrev G5(b1 b2:Bool)(h:Heap)(l1 l2:Addr):Heap:=dg! (G4 b1 b2 h l1 l2) ({cls:=ar! iJ!,data:=eY! #[ab!,.bool q!,.bool q!,y! (eo! (G2 b1 b2 h l1 l2)),y! (eo! (G3 b1 b2 h l1 l2))]})
theorem zj5(b1 b2:Bool) (l1 l2:Addr) (xs ys:cF!): Meets (Builtin.«zip.__new__» (dT! [ar! iJ!,y! l1,y! l2])) (λ_ R s=>h1! b1 l1 xs/\h1! b2 l2 ys/\R (.ok (.ret (y! (eo! (G4 b1 b2 L! l1 l2))))) {s with heap:=G5 b1 b2 L! l1 l2}):= rt! (by
  obtain⟨hp,g,d,tk,os⟩:=s;obtain⟨c1,c2,h⟩:=h;have bN:=sub_zip;have q1 := c1;have q2:Sco b2 (Shared.heap (fc! (hp.push (itO b1 l1)) g d tk)) l2 ys:=c2.to λo e=>_i _ e;wp_walk using z90 q1,z90 q2;exact aH! _ h)
section
variable {P:Program}{w:World}{A:Around}{E:b1!}{s:Shared}
theorem zl3(c1:h1! b1 l1 xs) (c2:h1! b2 l2 ys) (h:∀h',IsZip h' (at!+4) (at!+2) (at!+3) ab!->lP! h' (at!+2) f4! (y! dZ!)-> lP! h' (at!+3) ab! ab!->Sit b1 h' at! l1 0->Sit b2 h' dZ! l2 0->(∀c o,dx! c->dK! c)->Q (y! (at!+4)) {s with heap:=h'}): gu! P w A (call (ar! iJ!) [y! l1,y! l2]) Q E s:=by
 refine callType_new F.called_zip (by decide) (F.typeCall_zip_2 _ _) (F.newCall_zip_2 _ _) (λobj=>F.args_object_init_3 obj _ _) F.entry_zip_new (zj5 b1 b2 l1 l2 xs ys) ⟨c1,c2,?_⟩;have z1:eo! (G1 b1 L! l1)=dZ!:=_aK ..;have z2:eo! (G2 b1 b2 L! l1 l2)=at!+2:=by rw[_aK,z1]
 have z3:eo! (G3 b1 b2 L! l1 l2)=at!+3:=by rw[_aK,z2]
 have z4:eo! (G4 b1 b2 L! l1 l2)=at!+4:=by rw[_aK,z3]
 have up:∀{h:Heap} {o:Obj} {c:Addr} {u:Obj},eK! c u->fi! (h.push o) c u:=λe=>_i _ e;have g5:fi! (G5 b1 b2 L! l1 l2) (eo! (G4 b1 b2 L! l1 l2)) _:=hh!;have g4:fi! (G5 b1 b2 L! l1 l2) (eo! (G3 b1 b2 L! l1 l2)) _:=up hh!;have g3:fi! (G5 b1 b2 L! l1 l2) (eo! (G2 b1 b2 L! l1 l2)) _:=up (up hh!);have g2:fi! (G5 b1 b2 L! l1 l2) (eo! (G1 b1 L! l1)) (itO b2 l2):=up (up (up (_w _ (z69 b2 l2))));rw[z2,z3,z4]at g5;rw[z1,z2]at g3;rw[z3]at g4;rw[z1]at g2;rw[z4];exact⟨ce! g5,h _ g5 g3 g4 (zby (up (up (up (up (_w _ (z69 b1 l1))))))) (zby g2) λc o e=>up (up (up (up (up e))))⟩
end
end Zz
namespace L2
open Zz
def Sq(b:Bool)(K:W.Frag)(H:Hp)(a:Addr)(xs:aG!):g!:=match b with
 | true=>SqL K H a xs | false=>SqT K H a xs
section
variable {X:Cx}{ae:dp!}{O:St}{H:Hp}{s:Shared}{h':Heap}
theorem Inv.sq(I:N!)(h:Sq b X.K H a xs):∃af:List Value,xt xs af/\h1! b a fE!:=by cases b with
 | true=>obtain⟨af,r,p,_⟩:=I.list h;exact a3! af r p.isList | false=>obtain⟨af,r,p,_⟩:=lG! h;exact a3! af r p
theorem Inv.sq_inj(I:N!)(h:Sq b X.K H a xs)(h':Sq b X.K H a ys):xs=ys:=by cases b with
 | true=>exact I.list_inj h h' | false=>exact I.tuple_inj h h'
theorem Inv.turnedL{ch:ao!}(I:N!)(k:bJ! (b∉ch->dx! b->dK! b))(f:∀b∈ch,zcG X ae H b):l4! ({s with heap:=h',toks:=t'}):=by
 have eB:∀b u,cY! u->b∉ch:=λb u e z=>by rw[(f b z).1]at e;cases e
 refine I.step (cv! (ck! (f b hb).2.2.2.1 (f b hb).2.1 (f b hb).2.2.2.2.1 (f b hb).2.2.2.2.2)) (λb o _ _ hc e _=>k b o hc e) (λb o _ _ hc e _=>⟨o.slots,k b o hc e⟩) (λ_ _ _ _ n=>n) (λb o hc e=>⟨o,k b o hc e⟩) (λ_ _ e=>e) (λ_ _ _ e=>e) (λb ps e=>⟨#[],by rw[e];simp⟩) (λm hm=>?_) (λb u e=>?_) jD!
 ·obtain⟨o,es,ep,ho,r⟩:=hm;exact⟨o,es,ep,k _ o (λz=>(f _ z).2.1 rfl) ho,r⟩
 ·refine (n9! b u e).stay (λc v hc q=>k c v ?_ q) (λ_ q=>q) λ_ _ q=>q;rcases hc with z | z;·rw[z];exact eB b u e
  ·exact eB c _ z
end
noncomputable def Itz(K:W.Frag)(b1 b2:Bool)(l1 l2:Addr):It:= ⟨λi H=>∃xs ys x y,Sq b1 K H l1 xs/\Sq b2 K H l2 ys/\al! xs x/\al! ys y, λi H v H'=>∃T x y,H T=a!/\v=y! T/\H'=cf! T (n! [x,y])/\(∀xs,Sq b1 K H l1 xs->al! xs x)/\∀ys,Sq b2 K H l2 ys->al! ys y, λi H=>∃xs ys,Sq b1 K H l1 xs/\Sq b2 K H l2 ys/\(w!<=i\/cO!<=i)⟩
theorem zkY{K:W.Frag} {z TI TO i1 i2 l1 l2:Addr}(D:ZipApart z TI TO i1 i2 l1 l2): zkj P w K (jc! br tp) (Itz K b1 b2 l1 l2) [z,TI,TO,i1,i2] z (λi h=>IsZip h z TI TO ab!/\lP! h TI (y! i1) (y! i2)/\(∃a b,lP! h TO a b)/\Sit b1 h i1 l1 i/\Sit b2 h i2 l2 i) where
 mem:=by simp
 obj:=λi h ⟨hz,bM,⟨a,b,bT⟩,h1,h2⟩ c hc=>by
  rcases (by simpa using hc) with rfl | rfl | rfl | rfl | rfl;·exact bQ! hz (λv e=>by simp at e)
  ·exact bQ! bM (λv e=>by simp at e)
  ·exact bQ! bT (λv e=>by simp at e)
  ·exact h1.ob
  ·exact h2.ob
 keep:=λi h h' ⟨hz,bM,⟨a,b,bT⟩,h1,h2⟩ k=>⟨k z (by simp) _ hz,k TI (by simp) _ bM,⟨a,b,k TO (by simp) _ bT⟩,h1.to λo e=>k i1 (by simp) o e,h2.to λo e=>k i2 (by simp) o e⟩;item:=by
  intro X hP hw hK hc i ae s O H E I hf ⟨hz,bM,⟨a,b,bT⟩,h1,h2⟩ ⟨xs,ys,x,y,qx,qy,ex,ey⟩;subst hP hw hK;obtain⟨ix,rx,cx⟩:=I.sq qx;obtain⟨iy,ry,cy⟩:=I.sq qy;obtain⟨u,hu,ru⟩:=rx.get ex;obtain⟨v,hv,rv⟩:=ry.get ey;refine znj D hz bM bT h1 h2 cx cy (by simpa using hu) (by simpa using hv) λg a1 a2 a3 a4 a5 a6 hk=>aH! _ ?_;have I1 := I.turnedL (t':=s.toks) (λc o n e=>hk c o (λt=>n (by simp[t])) (λt=>n (by simp[t])) (λt=>n (by simp[t])) (λt=>n (by simp[t])) e) λc hc=>hf c ((λc hc=>by rcases (by simpa using hc) with rfl | rfl | rfl | rfl<;>simp:∀c∈[z,TO,i1,i2],c∈[z,TI,TO,i1,i2]) c hc);refine wpAny_letOwnedTupleGo_zip a1 λg2 z2 s2=>?_;obtain⟨f0,f1,f2,f3,f4,f5⟩:=hf z (by simp);have new := I.fpOk am! (mF! _);have ne:∀{c:Addr}{o:Obj},dx! c->c≠at!:=λe=>_E df!;refine⟨f4!,cf! at! (n! [x,y]),(I1.turned (t':=s.toks) (λc o n e=>zH s2 n e) f0 f1 f3 f4 f5).track new ⟨?_,[u,v],eX! ru (eX! rv cD!),⟨_,(zH s2 (ne hz).symm a5),rfl,rfl,_,rfl⟩⟩,rfl,⟨_,x,y,new.1,rfl,rfl,λzs qz=>?_,λzs qz=>?_⟩,⟨z2,?_,bQ! _ (zH s2 D.TOz a2),a3.to (j1! s2 D.i1z e),a4.to (j1! s2 D.i2z e)⟩,λc hc=>?_⟩;·show 2<=aY!;decide
  ·rw[I.sq_inj qz qx];exact ex
  ·rw[I.sq_inj qz qy];exact ey
  ·exact zH s2 D.TIz (hk TI _ D.TIz D.TITO D.TIi1 D.TIi2 bM)
  ·rw[zM (by
    rcases (by simpa using hc) with rfl | rfl | rfl | rfl | rfl;·exact ne hz
    ·exact ne bM
    ·exact ne bT
    ·exact _E h1.lt
    ·exact _E h2.lt)];exact (hf c hc).1
 done:=by
  intro X hP hw hK hc i ae s O H E I hf ⟨hz,bM,⟨a,b,bT⟩,h1,h2⟩ ⟨xs,ys,qx,qy,hl⟩;subst hP hw hK;obtain⟨ix,rx,cx⟩:=I.sq qx;obtain⟨iy,ry,cy⟩:=I.sq qy;have lx:=rx.length;have ly:=ry.length;refine zrt ht! D hz bM bT h1 h2 cx cy ?_ λg hk=>g4! (I.turnedL (ch:=[z,TO,i1,i2]) (λc o n e=>hk c o (λt=>n (by simp[t])) (λt=>n (by simp[t])) (λt=>n (by simp[t])) (λt=>n (by simp[t])) e) λc hc=>hf c (by rcases (by simpa using hc) with rfl | rfl | rfl | rfl<;>simp))
  ·rcases hl with hl | hl;·exact C! (by simp;lia)
   ·exact T! (by simp;lia)
 self:=λ_ _ _ _ _ st h=>wpAny_pyIter_zip st.1 h
theorem zrM{br:aI!}{kt:Nat}{tp:Pos} {p pos:Pos}(hg:iE! iJ!)(hm:dS! iJ!)(ha:PA X [a,b] ta)(hs:B! (aw! [a,b]=d6! a::aw! [b]))(au:eg! [b] (·.1)): PI X (jc! br tp) (dw! iJ! p [a,b]) (λO H R=>ta O H λvs H1=>∃l1 l2 b1 b2,vs=[y! l1,y! l2]/\(∃xs,Sq b1 X.K H1 l1 xs)/\(∃ys,Sq b2 X.K H1 l2 ys)/\R (Itz X.K b1 b2 l1 l2) H1):=by
 refine λae s O H R I h=>_ar (z2g I hg hm (by rfl) (_ab (thn (ha pos ae s O H _ I h) λus s1 ⟨vs,H1,I1,r1,q1⟩=>?_) hs au) (by decide) (by decide));obtain⟨l1,l2,b1,b2,rfl,⟨xs,qx⟩,⟨ys,qy⟩,q⟩:=q1;cases r1 with | cons r1 r2=> cases r2 with | cons r2 r3=>
   cases r3;cases r1;cases r2;obtain⟨ix,rx,cx⟩:=I1.sq qx;obtain⟨iy,ry,cy⟩:=I1.sq qy;have mY:l1<iR!:=by cases b1 with
    | true=>obtain⟨o,e,_⟩:=cx;exact df! | false=>obtain⟨o,e,_⟩:=cx;exact df!
   refine zl3 cx cy λg hz bM bT h1 h2 hk=>(wpAny_pyIter_zip hz ?_);refine⟨_,_,_,_,H1,rfl,of! hk,zkY (by
    have e1:∀k:Nat,l1≠iR!+k:=λk=>_E (_j mY (_cf _ _));have e2:∀k:Nat,l2≠iR!+k:=λk=>_E (_j (by cases b2 with
    | true=>obtain⟨o,e,_⟩:=cy;exact df! | false=>obtain⟨o,e,_⟩:=cy;exact df!) (_cf _ _));have nk:∀(m j k:Nat),j≠k->m+j≠m+k:=λm j k h z=>h (Nat.add_left_cancel z);exact⟨nk _ 2 4 (by decide),nk _ 3 4 (by decide),nk _ 0 4 (by decide),nk _ 1 4 (by decide),nk _ 2 3 (by decide),nk _ 2 0 (by decide),nk _ 2 1 (by decide),nk _ 3 0 (by decide),nk _ 3 1 (by decide),nk _ 0 1 (by decide),e1 4,e1 3,e1 0,e1 1,e2 4,e2 3,e2 0,e2 1⟩),⟨hz,bM,bQ! _ bT,h1,h2⟩,λc hc=>?_,q⟩;have cz:iR!<=c:=by rcases (by simpa using hc) with rfl | rfl | rfl | rfl | rfl<;>first | exact am! | exact _cf _ _
   exact r1! cz cz
end L2
namespace Zz
section
variable {P:Program}{w:World}{A:Around}{E:b1!}{s:Shared}
theorem zaO(hh:nH!)(h:h1! b l af) (k:∀s2:Shared,s2={s with heap:=mE! b l}->∀St:Nat->Heap->Prop,Walks P w A at! [at!,l] [at!] af.size (λi v=>al! af v) St->St 0 s2.heap-> (∀c∈[at!,l],c<s2.heap.objs.size)->(∀h':Heap,(∀c o,c∉[at!]->s2.heap.get? c=b! o->dK! c)->∀c o,dx! c->dK! c)->Q f4! s2):gu! P w A (pyIter eT!) Q E s:=by
 have lt:l<at!:=by cases b with
  | true=>obtain⟨o,e,_⟩:=h;exact df! | false=>obtain⟨o,e,_⟩:=h;exact df!
 have ne := _E lt;have bd:∀c∈[at!,l],c<eo! (mE! b l):=λc hc=>by
  rw[_aK];rcases (by simpa using hc) with rfl | rfl;·exact _ce _
  ·exact _aX lt
 have bx:∀h':Heap,(∀c o,c∉[at!]->fi! (mE! b l) c o->dK! c)->∀c o,dx! c->dK! c:=λh' hk c o e=> hk c o (λz=>k9! ((show c=at! from by simpa using z) ▸ df!) _) (_i _ e);refine z90 h ?_;have g:fi! (mE! b l) at! (itO b l):=_w _ (z69 b l);cases b with
 | true=>exact k _ rfl _ (Walks.list hh _ l ne af) ⟨zby g,Sco.to h λo e=>_i _ e⟩ bd bx | false=>exact k _ rfl _ (Walks.tuple hh _ l ne af) ⟨zby g,Sco.to h λo e=>_i _ e⟩ bd bx
end
end Zz
namespace L2
open Zz
noncomputable def maxL:h!->Int
 | []=>0 | x::xs=>k8! max
noncomputable def minL:h!->Int
 | []=>0 | x::xs=>k8! min
theorem jK:∀(xs:List Int)(x:Int),x<=k8! max/\(∀y∈xs,y<=k8! max)/\(k8! max=x\/k8! max∈xs)
 | [],x=>⟨_db _,by simp,c7!⟩ | y::ys,x=>by
  obtain⟨h1,h2,h3⟩:=jK ys (max x y);refine⟨by simp only[_a7];lia,λz hz=>?_,?_⟩
  ·simp only[_a7];rcases ep! hz with rfl | hz;·lia
   ·exact h2 z hz
  ·simp only[_a7];rcases h3 with h3 | h3
   ·rw[h3];rcases Int.le_total x y with h | h;·exact T! (by rw[Int.max_eq_right h];simp)
    ·exact C! (Int.max_eq_left h)
   ·exact T! (_K _ h3)
theorem jL:∀(xs:List Int)(x:Int),k8! min<=x/\(∀y∈xs,k8! min<=y)/\(k8! min=x\/k8! min∈xs)
 | [],x=>⟨_db _,by simp,c7!⟩ | y::ys,x=>by
  obtain⟨h1,h2,h3⟩:=jL ys (min x y);refine⟨by simp only[_a7];lia,λz hz=>?_,?_⟩
  ·simp only[_a7];rcases ep! hz with rfl | hz;·lia
   ·exact h2 z hz
  ·simp only[_a7];rcases h3 with h3 | h3
   ·rw[h3];rcases Int.le_total x y with h | h;·exact C! (Int.min_eq_left h)
    ·exact T! (by rw[Int.min_eq_right h];simp)
   ·exact T! (_K _ h3)
theorem maxL_ge: ∀y∈xs,y<=kf! xs:=by cases xs with
 | nil=>decide | cons x xs=>intro y hy;rcases ep! hy with rfl | hy;exact (jK xs y).1;exact (jK xs x).2.1 y hy
theorem maxL_mem(h:a4! xs):kf! xs∈xs:=by cases xs with
 | nil=>exact fn! h | cons x xs=>rcases (jK xs x).2.2 with e | e;exact (show k8! max∈x::xs by rw[e];simp);exact _K _ e
theorem minL_le: ∀y∈xs,minL xs<=y:=by cases xs with
 | nil=>decide | cons x xs=>intro y hy;rcases ep! hy with rfl | hy;exact (jL xs y).1;exact (jL xs x).2.1 y hy
theorem minL_mem(h:a4! xs):minL xs∈xs:=by cases xs with
 | nil=>exact fn! h | cons x xs=>rcases (jL xs x).2.2 with e | e;exact (show k8! min∈x::xs by rw[e];simp);exact _K _ e
section
variable {X:Cx}
theorem z81{ns:h!} (r:xt hZ! af) (e:al! fE! v):∃t,v=ci! (i9! i)/\i<e1!:=by
 have e':al! af v:=by simpa using e
 have hl:=r.length;have hi:i<e1!:=by
  have:=cV! e';simp at hl;lia
 obtain⟨u,hu,ru⟩:=r.get (i:=i) (x:=V.int ns[i]) (by simp[hi]);rw[e']at hu;cases hu;obtain⟨t,rfl⟩:=ru;exact⟨t,by simp[hi],hi⟩
theorem getD_in{ns:h!} (h:i<e1!):i9! i∈ns:=by
 rw[List.getD,_b h];exact _J _
theorem ziX(hc:b0!):mk! X nQ! (∃b p ns,xs=[cg!]/\Sq b X.K H p hZ!/\a4! ns/\Q (c! nN!) H):=by
 intro ae s O H xs us Q I r h;obtain⟨b,p,ns,rfl,hq,dg,q⟩:=h;obtain⟨u,rfl,ru⟩:=lj!;cases ru;obtain⟨af,rv,co⟩:=I.sq hq;have hl:kd!=e1!:=by have:=rv.length;simp at this;lia
 refine call_max_walk (sF! ht! co ?_);subst e2;refine⟨_,_,_,_,_,_,_,rfl,W,st,bd,by simpa[hl] using (_bN.mpr dg),CmpOf.ints_gt (λi=>i9! i) (λi v e=>let ⟨t,e1,_⟩:=z81 rv e;as! t e1),λv h' tk e hk=>?_⟩;obtain⟨t,e1,lt⟩:=z81 rv e;obtain⟨h1,h2⟩:=argBest_gt (λi=>i9! i) (iS!-1);rw[e1,(show i9! (argBest (λi j=>bl! (i9! i > i9! j)) (iS!-1))=nN! from by
  refine Int.le_antisymm (op! _ (getD_in lt)) ?_
  ·obtain⟨j,hj,ej⟩:=gr! (kW! dg);have:=h2 j (by simp[hl];lia);simp only[List.getD,_b hj,ej]at this;exact this)];exact⟨c! nN!,H,mu! (bx h' hk),cl! t,q⟩
theorem zgV(hc:b0!):mk! X nR! (∃b p ns,xs=[cg!]/\Sq b X.K H p hZ!/\a4! ns/\Q (c! (minL ns)) H):=by
 intro ae s O H xs us Q I r h;obtain⟨b,p,ns,rfl,hq,dg,q⟩:=h;obtain⟨u,rfl,ru⟩:=lj!;cases ru;obtain⟨af,rv,co⟩:=I.sq hq;have hl:kd!=e1!:=by have:=rv.length;simp at this;lia
 refine call_min_walk (sF! ht! co ?_);subst e2;refine⟨_,_,_,_,_,_,_,rfl,W,st,bd,by simpa[hl] using (_bN.mpr dg),CmpOf.ints_lt (λi=>i9! i) (λi v e=>let ⟨t,e1,_⟩:=z81 rv e;as! t e1),λv h' tk e hk=>?_⟩;obtain⟨t,e1,lt⟩:=z81 rv e;obtain⟨h1,h2⟩:=argBest_lt (λi=>i9! i) (iS!-1);rw[e1,(show i9! (argBest (λi j=>bl! (i9! i<i9! j)) (iS!-1))=minL ns from by
  refine Int.le_antisymm ?_ (minL_le _ (getD_in lt))
  ·obtain⟨j,hj,ej⟩:=gr! (rS! dg);have:=h2 j (by simp[hl];lia);simp only[List.getD,_b hj,ej]at this;exact this)];exact⟨c! (minL ns),H,mu! (bx h' hk),cl! t,q⟩
theorem all_range{bs:em! cj!}:(iM! qK!).all (λi=>bs.getD i q!)=bs.all id:=by
 rw[Bool.eq_iff_iff];simp only[_Q,_aO,id];constructor
 ·intro h x hx;obtain⟨j,hj,ej⟩:=qc!;simpa[hj,ej] using (h j hj)
 ·intro h i hi;simp only[List.getD,_b hi,_aG];exact h _ (_J _)
theorem zhN(hc:b0!):mk! X jx! (∃(b:Bool) (p:Addr) (bs:List Bool),xs=[cg!]/\Sq b X.K H p (bs.map V.bl)/\Q (.bl (bs.all id)) H):=by
 intro ae s O H xs us Q I r h;obtain⟨b,p,bs,rfl,hq,q⟩:=h;obtain⟨u,rfl,ru⟩:=lj!;cases ru;obtain⟨af,rv,co⟩:=I.sq hq;have hl:kd!=qK!:=by have:=rv.length;simp at this;lia
 refine call_all_walk (sF! ht! co ?_);subst e2;refine⟨_,_,_,_,_,_,λi=>bs.getD i q!,rfl,W,st,λi v s3 Q3 E3 e q3=>?_,λh' tk hk=>?_⟩
 ·have e':al! af v:=by simpa using e
  have hi:i<qK!:=by have:=cV! e';lia
  obtain⟨u,hu,ru⟩:=rv.get (i:=i) (x:=V.bl bs[i]) (by simp[hi]);rw[e']at hu;cases hu;cases ru;have q3:Q3 (bs.getD i q!) s3:=q3;rw[(show bs.getD i q!=bs[i] from by simp[List.getD,hi])]at q3;exact _aW q3
 ·rw[(show iS!=qK! from by exact hl ..),all_range];exact br! (.bl (bs.all id)) H (mu! (bx h' hk)) q
end
end L2
namespace L2
theorem zdK: mk! X gP! (∃x t T b,xs=[x,.ty T]/\zcV X.K H x t/\na! X.K t kD!=b! b/\Q (.bl b) H):=by
 intro ae s O H xs us Q I r h;obtain⟨x,t,T,b,rfl,ht,hk,q⟩:=h;obtain⟨u,v,rfl,ru,rv⟩:=vals2 r;cases rv;exact zhy I ru ht hk λtk=>br! (.bl b) H iz! q
end L2
namespace Dd
open L2
noncomputable def tyD:D->bq! String
 | .non=>b! "NoneType" | .bl _=>b! ig! | .int _=>b! eE! | .str _=>b! go! | .tup _=>b! c2! | .lst _=>b! en! | .loc _=>b! en! | .dct=>b! nP! | _=>none
noncomputable def isT(T t:String):Bool:=t==T||(T==eE!&&t==ig!)
noncomputable def gIs(T:String):D->bi!:=λd s=>match tyD d with | some t=>cb! (isT T t) | none=>.no
theorem zdZ{K:W.Frag} (h:t∈["NoneType",ig!,eE!,go!,c2!,en!,nP!])(T:String)(hT:T∈[eE!,ig!,go!,c2!,en!]):na! K (ar! t) kD!=b! (isT T t):=by rcases (by simpa using h) with rfl | rfl | rfl | rfl | rfl | rfl | rfl<;>rcases (by simpa using hT) with rfl | rfl | rfl | rfl | rfl<;>kernel_rfl
theorem zmf(r:ek!)(dn:fz!)(e:tyD d=b! t):zcV ns! H v (ar! t)/\t∈["NoneType",ig!,eE!,go!,c2!,en!,nP!]:=by cases d with
 | non=>subst dn;cases e;exact⟨aA!,by decide⟩ | bl b=>cases z0E dn;cases e;exact⟨.bl b,by decide⟩ | int b=>cases yy dn;cases e;exact⟨fe!,by decide⟩ | str b=>cases z0P dn;cases e;exact⟨aD! b,by decide⟩ | tup b=>
  cases e;obtain⟨a,vs,rfl,h1,_⟩:=dn;exact⟨n! h1,by decide⟩ | lst b=>
  cases e;obtain⟨a,o,vs,rfl,h1,_⟩:=dn;exact⟨.frz h1,by decide⟩ | loc l=>
  cases e;obtain⟨a,rfl,h1,vs,h2⟩:=dn;exact⟨X! h2,by decide⟩ | dct=>
  cases e;obtain⟨a,rfl,h1⟩:=dn;exact⟨.dK h1,by decide⟩ | _=>cases e
section
variable {X:Cx}{E:XK}{e a b c tg:Expr}{es:aI!}{pos:Pos}{CX:CXT}
noncomputable def eIs(T:String)(f:FE):FE:=e2! (eh! (gIs T d s1))
theorem za5{p p2:Pos} (hT:T∈[eE!,ig!,go!,c2!,en!])(hv:k4! tn kD!)(hg:iE! gP!)(hm:dS! gP!)(cK:iE! tn)(cj:dS! tn)(he:fA! f) (hn:kj! (mc! tn))(hd:cp! (tn==cP!)) (hs:B! (aw! [e,fP! tn]=d1!::aw! [fP! tn]))(au:eg! [fP! tn] (·.1)):Y! (dw! gP! p [e,fP! tn]) (eIs T f):= yp (z3E zdK hg hm (by decide +kernel) (wV he (wV (zaf cK cj hv (show wQ (.ty T) kD! from rfl) hn hd) z1e) hs) (by decide) (by decide) hs au) λO H Q ⟨Y,ρ,s,r,en,h⟩=>by
  refine yR (k:=kV! (gIs T d s1)) r en h _ λv H1 Y1 s1 d r1 av dn stp h1=>?_;unfold gIs at h1;split at h1
  ·rename_i t et;obtain⟨q1,q2⟩:=zmf r1 dn et;exact⟨v,ar! t,T,isT T t,rfl,q1,zdZ q2 T hT,om! h1 r1 wN⟩
  ·exact h1.elim
noncomputable def zlC:x!->bi!
 | [.int i],s=>v! (an! (i<0) (-i) i) | _,_=>.no
theorem zv4:∃r,jR! X "abs" r/\z2A X E r zlC:=km! zk7 (by
 unfold zlC at h;split at h
 ·rename_i i;obtain⟨v,rfl,dn⟩:=lw!;cases yy dn;exact aH! i (e9! yH)
 ·exact h.elim)
noncomputable def intsOf:x!->bq! h!
 | []=>b! [] | .int i::r=>(qL! r).map (i::·) | _=>none
noncomputable def bools:x!->bq! (em! cj!)
 | []=>b! [] | .bl i::r=>(oq! r).map (i::·) | _=>none
theorem z0O:∀{xs:List D}{ns:List Int},qL! xs=b! ns->xs=is!
 | [],ns,h=>by cases h;rfl | .int i::r,ns,h=>by
  obtain⟨ms,h1,rfl⟩:=qM! h;rw[z0O h1];rfl
theorem uF(ns:h!):qL! is!=b! ns:=by induction ns with
 | nil=>rfl | cons n ns ih=>show (qL! _).map (n::·)=_;rw[ih];rfl
theorem z5V:∀{xs:List D}{ns:List Bool},oq! xs=b! ns->xs=pq! D.bl
 | [],ns,h=>by cases h;rfl | .bl i::r,ns,h=>by
  obtain⟨ms,h1,rfl⟩:=qM! h;rw[z5V h1];rfl
theorem zbk(ns:em! cj!):oq! (pq! D.bl)=b! ns:=by induction ns with
 | nil=>rfl | cons n ns ih=>show (oq! _).map (n::·)=_;rw[ih];rfl
theorem z0Q: ∀{ns:List Int}{vs:List V},oU! is!->vs=hZ!
 | [],vs,h=>by exact h | n::ns,vs,h=>by
  obtain⟨v,r,rfl,h1,h2⟩:=h;cases yy h1;rw[z0Q h2];rfl
theorem z5P: ∀{ns:List Bool}{vs:List V},oU! (pq! D.bl)->vs=pq! V.bl
 | [],vs,h=>by exact h | n::ns,vs,h=>by
  obtain⟨v,r,rfl,h1,h2⟩:=h;cases z0E h1;rw[z5P h2];rfl
noncomputable def vY:x!->bi!
 | [d],s=>match D! (zY s d) intsOf with | some (n::ns)=>v! (kf! (n::ns)) | _=>.no
 | _,_=>.no
noncomputable def z6t:x!->bi!
 | [d],s=>match D! (zY s d) intsOf with | some (n::ns)=>v! (minL (n::ns)) | _=>.no
 | _,_=>.no
noncomputable def zgq:x!->bi!
 | [d],s=>match D! (zY s d) bools with | some ns=>cb! (ns.all id) | none=>.no
 | _,_=>.no
theorem zev{K:W.Frag} {a:Addr} (h:SqL K H a vs\/SqT K H a vs):∃b,Sq b K H a vs:=h.elim (λh=>as! d! h) λh=>as! q! h
theorem z4K(hc:b0!):∃r,jR! X nQ! r/\z2A X E r vY:=km! (ziX hc) (by
 unfold vY at h;split at h
 ·split at h
  ·rename_i n ns e;obtain⟨xs,e1,e2⟩:=_bd.mp e;have:=z0O e2;subst this;obtain⟨v,rfl,dn⟩:=lw!;obtain⟨a,ws,rfl,q1,q2⟩:=jI r e1 dn;cases z0Q q2;obtain⟨b,q⟩:=zev q1;exact⟨b,a,n::ns,rfl,q,by simp,e9! yH⟩
  ·exact h.elim
 ·exact h.elim)
theorem zlN(hc:b0!):∃r,jR! X nR! r/\z2A X E r z6t:=km! (zgV hc) (by
 unfold z6t at h;split at h
 ·split at h
  ·rename_i n ns e;obtain⟨xs,e1,e2⟩:=_bd.mp e;have:=z0O e2;subst this;obtain⟨v,rfl,dn⟩:=lw!;obtain⟨a,ws,rfl,q1,q2⟩:=jI r e1 dn;cases z0Q q2;obtain⟨b,q⟩:=zev q1;exact⟨b,a,n::ns,rfl,q,by simp,e9! yH⟩
  ·exact h.elim
 ·exact h.elim)
theorem zks(hc:b0!):∃r,jR! X jx! r/\z2A X E r zgq:=km! (zhN hc) (by
 unfold zgq at h;split at h
 ·split at h
  ·rename_i ns e;obtain⟨xs,e1,e2⟩:=_bd.mp e;have:=z5V e2;subst this;obtain⟨v,rfl,dn⟩:=lw!;obtain⟨a,ws,rfl,q1,q2⟩:=jI r e1 dn;cases z5P q2;obtain⟨b,q⟩:=zev q1;exact⟨b,a,ns,rfl,q,e9! wN⟩
  ·exact h.elim
 ·exact h.elim)
noncomputable def z4Q:x!->x!->x!
 | x::xs,y::ys=>n! [x,y]::z4Q xs ys | _,_=>[]
theorem z7z:∀(xs ys:List D),t! (z4Q xs ys)=min w! cO!
 | [],ys=>by rfl | x::xs,[]=>by rfl | x::xs,y::ys=>by rw[z4Q,_d,_d,_d,z7z xs ys,Nat.add_min_add_right]
theorem zgz:∀{xs ys:List D}{i:Nat}{d:D},al! (z4Q xs ys) d->∃x y,al! xs x/\al! ys y/\d=n! [x,y]
 | [],ys,i,d,h=>by cases h | x::xs,[],i,d,h=>by cases h | x::xs,y::ys,0,d,h=>by simp[z4Q]at h;exact⟨x,y,by rfl,by rfl,h.symm⟩ | x::xs,y::ys,i+1,d,h=>by
  simp only[z4Q,_e]at h;obtain⟨a,b,h1,h2,h3⟩:=zgz h;exact⟨a,b,by exact h1,by exact h2,h3⟩
noncomputable def z9e(s:Sto):D->bq! (x!×i1! Nat x!)
 | .tup xs=>b! (xs,[]) | .lst xs=>b! (xs,[]) | .loc l=>(s[l]?).map λxs=>(xs,[(l,xs)]) | _=>none
theorem zds(r:ek!)(h:z9e s d=b! (xs,g))(dn:fz!):okG g [] s/\∃(b:Bool)(a:Addr),v=ag!/\ ∀H2 Y2 s2,uh mg H Y H2 Y2 s2->okG g [] s2->∃ws,Sq b ns! H2 a ws/\f7! H2 Y2 xs ws:=by cases d with
 | tup ys=>
  cases h;obtain⟨a,vs,rfl,q1,q2⟩:=kP (K:=mg.K) dn;refine br! (by intro p hp;cases hp) q! a (λH2 Y2 s2 stp _=>?_);obtain⟨a',ws,e,q3,q4⟩:=kP (rQ! stp);cases e;exact a3! ws q3 q4 | lst ys=>
  cases h;obtain⟨a,vs,rfl,q1,q2⟩:=yt r rfl dn;refine br! (by intro p hp;cases hp) d! a (λH2 Y2 s2 stp _=>?_);obtain⟨a',ws,e,q3,q4⟩:=yt dO! rfl (rQ! stp);cases e;exact⟨ws,C! q3,q4⟩ | loc l=>
  simp only[z9e,_al]at h;obtain⟨ys,ey,e2⟩:=h;cases e2;obtain⟨a,vs,rfl,q1,q2⟩:=yt (d:=db!) r ey dn;refine br! (bs! (by
   have:p=(l,xs):=by simpa using hp
   subst this;exact ey)) d! a (λH2 Y2 s2 stp hg=>?_);obtain⟨a',ws,e,q3,q4⟩:=yt (d:=db!) stp.rep (hg (l,xs) (by simp)) (rQ! stp);cases e;exact⟨ws,C! q3,q4⟩ | _=>cases h
noncomputable def z5b(f:FA):FI:=ca! ay! (iT! (match ds with
 | [x,y]=>match z9e s1 x,z9e s1 y with
  | some p,some q=>I! (z4Q p.1 q.1,p.2++q.2) | _,_=>.no
 | _=>.no))
theorem z8a{p tp:Pos}{br:aI!}{kt:Nat} (hg:iE! iJ!)(hm:dS! iJ!)(ha:RA X E [a,b] f)(hs:B! (aw! [a,b]=d6! a::aw! [b]))(au:eg! [b] (·.1)): RI X E (jc! br tp) (dw! iJ! p [a,b]) (z5b f):= z8N (zrM hg hm ha hs au) λO H Q ⟨Y,ρ,s,r,en,h⟩=>by
  refine⟨Y,ρ,s,r,en,dl! h (λvs H1 ⟨Y1,s1,ds,stp,dn,h1⟩=>?_)⟩;split at h1
  ·split at h1
   ·rename_i p q ex ey;obtain⟨v,v',rfl,d1,d2⟩:=zaV dn;obtain⟨ie,b1,a1,rfl,k1⟩:=zds dO! ex d1;obtain⟨mZ,b2,a2,rfl,k2⟩:=zds dO! ey d2;obtain⟨w1,q1,_⟩:=k1 H1 Y1 s1 (.refl dO!) ie;obtain⟨w2,q2,_⟩:=k2 H1 Y1 s1 (.refl dO!) mZ;refine⟨a1,a2,b1,b2,rfl,as! w1 q1,as! w2 q2,oQ! (λH2 Y2 s2 ag og i=>?_)⟩;have h3 := bs! (og p (_a9 _ hp));have h4 := bs! (og p (_P _ hp));refine⟨il! ?_,λhl=>?_⟩
    ·obtain⟨x,y,e1,e2,rfl⟩:=zgz hd;obtain⟨w1,q1,n1⟩:=k1 H2 Y2 s2 ag h3;obtain⟨w2,q2,n2⟩:=k2 H2 Y2 s2 ag h4;obtain⟨u1,g1,m1⟩:=n1.get e1;obtain⟨u2,g2,m2⟩:=n2.get e2;refine⟨⟨w1,w2,u1,u2,q1,q2,g1,g2⟩,λz H' ⟨T,p,q,hT,ez,eH,hp,hq⟩=>?_⟩;subst ez eH;have e3:=hp w1 q1;have e4:=hq w2 q2;rw[g1]at e3;rw[g2]at e4;cases e3;cases e4;have cB:=uh.lay (o:=n! [u1,u2]) ag.rep hT (by intro _ z;cases z);exact⟨Y2,cB,g6! T [u1,u2] yA ((pr! m1 (yo.one m2)).mono cB)⟩
    ·obtain⟨w1,q1,n1⟩:=k1 H2 Y2 s2 ag h3;obtain⟨w2,q2,n2⟩:=k2 H2 Y2 s2 ag h4;refine⟨w1,w2,q1,q2,?_⟩;rw[n1.length,n2.length];simp only[z7z]at hl;omega
   ·exact h1.elim
  ·exact h1.elim
end
noncomputable def wP(mp:fa!)(ρ:Ev):Ev:=mp.map λo=>match o with | some j=>(ρ[j]?).getD a! | none=>none
theorem z2E.inner(en:hM! H Y O):z2E mg H Y jw! ie!:=by
 refine⟨by simp[wP,L2.inner],λi d h=>?_⟩;simp only[wP,_D,_al]at h;obtain⟨o,h1,h2⟩:=h;cases o with
 | none=>cases h2 | some j=>
  simp only at h2;obtain⟨v,h4,h5⟩:=en.at_ j d (by cases e:ρ[j]? with
   | none=>rw[e]at h2;cases h2 | some x=>rw[e]at h2;simp at h2;rw[h2]);exact⟨v,by simp[L2.inner,h1,h4],h5⟩
open Classical in
noncomputable def qp(g:i1! Nat x!)(all:x!)(body:D->ee! fN!):x!->x!->ee! x!
 | [],acc,s=>ae! (okG g all s) (k! acc) | x::xs,acc,s=>ae! (okG g all s) (D! (body x s) (λo s1=>match o with
   | some d=>ae! (im!<cap) (qp g all dM! xs (acc++[d]) s1) | none=>qp g all dM! xs acc s1))
noncomputable def zcY(fi:FI)(mp:fa!)(fg:FG)(ft:FT)(fe:FE):FA:=ca! (fi ρ s) (λit s1=>qp it.2 it.1 (λd s=>D! (fg d jw! s) (fun ρ' s'=>D! (ft ρ' s') (λb s2=>aF! b (D! (fe ρ' s2) (λd s3=>ge! i!)) (ba! a!)))) it.1 [] s1)
def z8l(mg:Gm)(E:XK)(mp:fa!)(g:TG)(fg:FG):g!:=∀(O:L2.St) H Y ρ s x d (Q:L2.St->Hp->Prop),ek!->z2E mg H Y jw! ie!->je! d x->eW! E H Y (z2E mg) (fg d jw! s) Q-> g x ie! H (λO2 H2=>(O2.length=t! ie!/\∀(i:Nat) v,al! ie! bV!->al! O2 bV!)/\Q O2 H2)
theorem z7f{i:Nat}(h:al! mp a!)(O:L2.St):al! ie! a!:=by simp[L2.inner,h]
theorem z9K{O:L2.St} (h:al! O a!):t! (lb! i)=qj!/\∀(j:Nat) u,G! O j (b! u)->G! (lb! i) j (b! u):=by
 refine⟨by simp,λj u e=>?_⟩;rw[_ac (λz=>by subst z;rw[h]at e;cases e)];exact e
section
variable {X:Cx}{E:XK}{e a b c tg iter az:Expr}{es:aI!}{pos:Pos}{CX:CXT}{mp:fa!}
theorem zG(i:Nat)(h:al! mp a!):z8l M! E mp (zft i) (yh i):=λO H Y ρ s x d Q r en dn ok=>⟨z9K (z7f h O),(g5! ok (en.set dn i))⟩
inductive WkC(mg:Gm)(E:XK)(Dn:Hp->ao!->β->β2->g!)(Q2:β2->bW!)(H1:Hp)(Y1:ao!)(n:Nat)(G:Nat->x!->ee! β)(i m:Nat)(ys:aG!)(H:Hp):g! | mk {Y:ao!}{s:Sto}{acc:x!}(st:uh mg H1 Y1 H Y s)(dn:f7! H Y acc ys)(hc:im!<=cap)(hm:m=n-i)(hi:i<=n)(h:eW! E H Y Dn (G i acc s) Q2):WkC mg E Dn Q2 H1 Y1 n G i m ys H
theorem bind_assoc{α γ δ:bD!}(x:R α)(f:α->ee! γ)(k:γ->ee! δ):D! (qN! f) k=qN! (λa s=>D! (f a s) k):=by cases x<;>rfl
theorem z6d{Dn:Hp->ao!->β->β2->g!} (hg:z8l M! E mp g fg)(r:Rep M! H Y s)(en:z2E M! H Y ρ O) (h:okR M! E H Y Dn (D! (zcY fi mp fg ft fe ρ s) kR) Q2) (fin:∀H1 Y1 s1 xs vs,Rep M! H1 Y1 s1->z2E M! H1 Y1 ρ O->yo M! H1 Y1 xs vs->okR M! E H1 Y1 Dn (kR xs s1) Q2->jg!->∀p,H1 p=a!->Q cg! (upd H1 p bT!)): zll (tI M! E fi) mp g (tT M! E ft) (tE M! E fe) O H Q:=by
 unfold zcY at h;rw[bind_assoc]at h;refine⟨Y,ρ,s,r,en,dl! h (λJ H1 ⟨Y1,s1,it,stp,ok,h1⟩=>?_)⟩;obtain⟨items,gd⟩:=it;refine⟨WkC M! E Dn Q2 H1 Y1 iU! λi acc s=>D! (qp gd hm! (λd s=>D! (fg d jw! s) (fun ρ' s'=>D! (ft ρ' s') (λb s2=>aF! b (D! (fe ρ' s2) (λd s3=>ge! i!)) (ba! a!)))) (items.drop i) acc s) kR, ⟨iU!,.mk (.refl dO!) yo.nil gL! rfl gL! h1⟩,λi m ys H2 w=>?_⟩;have av:=it!;cases w with | @mk Y2 s2 acc ag ax bG hm hil h2=>
 subst hm;have aY:=av.mono ag;by_cases bv:i<iU!
 ·right;rw[_bJ bv,qp]at h2;split at h2
  ·rename_i hG;obtain⟨go,yl⟩:=((ok H2 Y2 s2 ag hG i).1 items[i] (_b bv));refine⟨go,λx H' y=>?_⟩;obtain⟨Y3,aq,cw⟩:=yl x H' y;have h3:=okR.rebase h2 aq;rw[bind_assoc,bind_assoc]at h3;refine hg O H' Y3 ρ s2 x items[i] _ aq.rep ((aY.mono aq).inner) cw ((okR.bind (Dn:=z2E M!) h3).imp λO4 H4 ⟨Y4,s4,ρ4,bE,hY,h5⟩=>?_);rw[bind_assoc]at h5;refine⟨Y4,ρ4,s4,bE.rep,hY,dl! h5 (λbb H5 ⟨Y5,s5,b',bL,eb,h6⟩=>?_)⟩;cases (eb);have fk := aJ! (aJ! (ag.trans aq) bE) bL;have j8:iU!-(i+1)<iU!-i:=by omega
   cases bb with
   | true=>
    rw[gD!]at h6 ⊢;rw[bind_assoc]at h6;refine⟨Y5,ρ4,s5,bL.rep,hY.mono bL,dl! h6 (λy H6 ⟨Y6,s6,d6,ci,cP,h7⟩=>?_)⟩;split at h7
    ·rename_i hc;exact⟨by rw[ax.length];exact z0D bG,iU!-(i+1),j8,.mk (fk.trans ci) ((((ax.mono aq).mono bE).mono bL).mono ci |>.append (yo.one cP)) (by simp;omega) rfl bv h7⟩
    ·exact h7.elim | false=> exact⟨iU!-(i+1),j8,.mk fk (((ax.mono aq).mono bE).mono bL) bG rfl bv h6⟩
  ·exact h2.elim
 ·left;have e:i=iU!:=by omega
  subst e;rw[List.drop_length,qp]at h2;split at h2
  ·rename_i hG;exact⟨(ok H2 Y2 s2 ag hG _).2 am!,by rw[ax.length];exact z0D bG,fin H2 Y2 s2 acc ys jJ! aY ax h2 bG⟩
  ·exact h2.elim
noncomputable def zt(fi:FI)(mp:fa!)(fg:FG)(ft:FT)(fe:FE):FE:=ca! (zcY fi mp fg ft fe ρ s) (jI! (I! bx!))
noncomputable def z1U(fi:FI)(mp:fa!)(fg:FG)(ft:FT)(fe:FE):FE:=ca! (zcY fi mp fg ft fe ρ s) (jI! (ae! (dj! xs) (.ok sL! (s1++[xs]))))
noncomputable def zU:FT:=λ_ s=>ky!
theorem yb: zd3 Yy [] (tT (gm Yy) E zU):=λae s O H Q I ⟨Y,ρ,st,r,en,h⟩=>zl8 ae s O H Q I (e9! rfl)
theorem wR(h:RT Yy E c f):zd3 Yy [c] (tT (gm Yy) E f):=zlm h
section
variable {scope:Scope}{aC:aI!}{fi:FI}{fg:FG}{ft:FT}{fe:FE}{g:TG}{aF py:Pos}
theorem zpC(N':aq!)(mp:fa!)(hc:b0!)(hi:RI X E tg ii! fi)(hg:mg! cC! tg g)(ck:z8l M! E mp g fg)(ht:md! cC! aC (tT M! E ft))(he:p9! cC! az fe) (aV:kw!)(aR:∀y∈scope.names,kc! y.1=b! y.2) (aI:∀y∈scope.names,y.2=bY!->fY! y.1=dH!\/fY! y.1=b! bY!)(aX:kM! N' mp=d!) (hs:lv! (lm! x=lu!)):Y! (gi! [gK! 0]) (zt fi mp fg ft fe):= yp (zhM (te:=tE M! E fe) N' mp hc hi hg ht (λex s H=>he ex s H) aV aR aI aX hs).freeze λO H Q ⟨Y,ρ,s,r,en,h⟩=> z6d ck r en h λH1 Y1 s1 xs vs r1 av dn h1 bG=>z0N r1 h1 dn
theorem zfy(N':aq!)(mp:fa!)(hN:X.N.Nodup)(hc:b0!)(hi:RI X E tg ii! fi)(hg:mg! cC! tg g)(ck:z8l M! E mp g fg)(ht:md! cC! aC (tT M! E ft))(he:p9! cC! az fe) (aV:kw!)(aR:∀y∈scope.names,kc! y.1=b! y.2) (aI:∀y∈scope.names,y.2=bY!->fY! y.1=dH!\/fY! y.1=b! bY!)(aX:kM! N' mp=d!)(hy:B! (ga! y))(cI:kq! (gZ! y)) (hs:lv! (lm! x=lu!)) (cJ:B! (mG! (gi! [gK! 0]) (b! gj!) qF!=rJ!)) (hf:g0! (f8! y\/e7! y)): RS X E (.Assign [gj!] (gi! [gK! 0]) aF) (yw i (zt fi mp fg ft fe)):= z0C (zd9 (te:=tE M! E fe) N' mp hN hy cI hc hi hg ht (λex s H=>he ex s H) aV aR aI aX hs cJ hf) λD O H ⟨Y,ρ,s,r,en,h⟩=>by
  unfold yw zt at h;rw[(λx f k=>by cases x<;>rfl:∀{α γ δ:Type}(x:R α)(f:α->Sto->R γ)(k:γ->Sto->R δ),D! (qN! f) k=qN! (λa s=>D! (f a s) k))]at h;exact z6d ck r en h λH1 Y1 s1 xs vs r1 av dn h1 bG p hp=>(z0N (E:=E) r1 (λv H2 Y2 stp ax=>(h1 (.nx (lb! i)) H2 Y2 stp ((av.mono stp).set ax i))) dn p hp)
theorem zg1(N':aq!)(mp:fa!)(hN:X.N.Nodup)(hc:b0!)(hi:RI X E tg ii! fi)(hg:mg! cC! tg g)(ck:z8l M! E mp g fg)(ht:md! cC! aC (tT M! E ft))(he:p9! cC! az fe) (aV:kw!)(aR:∀y∈scope.names,kc! y.1=b! y.2) (aI:∀y∈scope.names,y.2=bY!->fY! y.1=dH!\/fY! y.1=b! bY!)(aX:kM! N' mp=d!)(hy:B! (ga! y))(cI:kq! (gZ! y)) (hs:lv! (lm! x=lu!)) (cJ:B! (mG! (gi! [gK! 0]) (b! gj!) qF!=rJ!)) (hf:g0! (f8! y\/e7! y)): RS X E (.Assign [gj!] (gi! [gK! 0]) aF) (yw i (z1U fi mp fg ft fe)):= z0C (zfY (te:=tE M! E fe) N' mp hN hy cI hc hi hg ht (λex s H=>he ex s H) aV aR aI aX hs cJ hf) λD O H ⟨Y,ρ,s,r,en,h⟩=>by
  unfold yw z1U at h;rw[(λx f k=>by cases x<;>rfl:∀{α γ δ:Type}(x:R α)(f:α->Sto->R γ)(k:γ->Sto->R δ),D! (qN! f) k=qN! (λa s=>D! (f a s) k))]at h;refine z6d ck r en h λH1 Y1 s1 xs vs r1 av dn h1 bG p hp=>?_;split at h1
  ·rename_i hf;have stp:=uh.layL r1 hp dn hf;refine h1 (.nx (O.set i (b! cg!))) _ _ stp ((av.mono stp).set ?_ i);exact⟨p,rfl,by rw[<- r1.len];simp,vs,yA⟩
  ·exact h1.elim
end
end
section
variable {X:Cx}{E:XK}{e a b c tg iter az:Expr}{es:aI!}{pos:Pos}{CX:CXT}{mp:fa!}
noncomputable def zmL(K:W.Frag)(i j:Nat):TG:=zvN K 2 (zo9 (zft i) (zo9 (zft j) zvx))
theorem xK(i j:Nat){x y:Str}{px py:Pos}{kt:Nat}(hc:b0!)(hN:X.N.Nodup)(hi:B! (ga! x))(hj:B! (G! X.N j y))(hx:kq! (gZ! x))(hy:kq! (gZ! y)) (hf:g0! (f8! x\/e7! x))(e9:g0! (f8! y\/e7! y)): PG X (jc! [fq! px,gj!] pos) (zmL X.K i j):=ziv hc (z0t (zK hN hi hx hf) (z0t (zK hN hj hy e9) zdN))
theorem xF(i j:Nat)(aJ:i≠j)(h:al! mp a!)(h':G! mp j a!):z8l M! E mp (zmL X.K i j) (yS i j):=λO H Y ρ s x d Q r en dn ok=>by
 unfold yS at ok;split at ok
 ·obtain⟨p,vs,rfl,q1,q2⟩:=kP dn;obtain⟨v1,v2,rfl,e1,e2⟩:=zaV q2;have k1:=z9K (v:=v1) (z7f h O);have k2:=z9K (v:=v2) (show G! (g8! ie! i v1) j a! from by rw[_ac aJ];exact z7f h' O);exact⟨p,[v1,v2],rfl,q1,rfl,v1,[v2],rfl,v2,[],rfl,rfl,⟨k2.1.trans k1.1,λl u e=>k2.2 l u (k1.2 l u e)⟩,g5! ok ((en.set e1 i).set e2 j)⟩
 ·exact ok.elim
end
noncomputable def zv(N:aq!)(ds:x!):Ev:=ds.map some++oM! (N.length-qI!)
theorem z1I: sa! jr! (z2E mg H Y (zv N ds) (L2.start N vs)):=λ{ds vs} h=>by
 have hl:=h.length;refine⟨by simp[zv,L2.start,hl],λi d e=>?_⟩;unfold zv at e;have hi:i<qI!:=by
  by_cases hi:i<qI!;·exact hi
  ·rw[_by (by simpa using hi),_bc]at e;split at e<;>cases e
 rw[_H (by simpa using hi),_D]at e;obtain⟨v,h1,h2⟩:=h.get (by cases q:ds[i]? with
  | none=>rw[q]at e;cases e | some x=>rw[q]at e;simp at e;rw[e]);refine a3! v ?_ h2;unfold L2.start;rw[_H (by simpa[hl] using hi),_D,h1];rfl
noncomputable def Mof(N:aq!)(n:Nat)(fs:FS):Mir:=λds s=>ae! (qI!=n) (match fs (zv N ds) s with
 | .ok (.rt d) s'=>bz! d | .ok (.nx _) s'=>bz! aA! | _=>.no)
section
variable {P:Program}{w:World}{K:W.Frag}{mg:Str->aU!}{base:Heap}
theorem Has.mono(h:Has P w K mg R! CX x n M)(hl:n<=m):Has P w K mg R! CX x m M:=by
 obtain⟨f,fd,ps,F,r⟩:=h;exact⟨f,fd,ps,F.mono hl,r⟩
theorem zra{st:Stmt} (F:Fun K x av! st f fd)(hm:fx! x ft!)(hb:kF! K ps [])(S:S! N ps st)(hn:a5!=n) (body:ss! (z2G k (kx! av! dc! f aj)) ((z5B CX0 P w K mg R! N av! dc! f aj A au! s H E).nox.calm=d!-> RSs (z5B CX0 P w K mg R! N av! dc! f aj A au! s H E).nox E0 ic! fs)):Has P w K mg R! CX0 x (k+1) (Mof N n fs):=by
 subst hn;refine⟨f,fd,ps,F.ok S (qO! ?_) (λaj A outer s H vs Q E hr h=>?_),hb,F.kp,hm⟩
 ·obtain⟨Y,s,ds,_,dn,h⟩:=h;unfold Mof at h;split at h;·rename_i e;rw[dn.length];exact e
  ·exact h.elim
 ·obtain⟨Y,cn,ds,r,dn,h⟩:=h;refine⟨_,body aj A au! s H E hr (by show A.handled.isNone=d!;rw[show nH! from hr.hd];rfl),Y,zv N ds,cn,r,z1I dn,?_⟩;unfold Mof at h;split at h
  ·split at h
   ·rename_i d s' e;rw[e];intro fv H' Y' stp fd;cases fv with
    | rt v=>exact h v H' Y' stp fd | _=>exact b7! fd
   ·rename_i ρ s' e;rw[e];intro fv H' Y' stp fd;cases fv with
    | nx v=>exact h aA! H' Y' stp rfl | _=>exact b7! fd
   ·exact h.elim
  ·exact h.elim
theorem zrv{st:Stmt} (F:Fun K x av! st f fd)(hm:fx! x ft!)(hb:kF! K ps []):Has P w K mg R! CX0 x 0 (λ_ _=>.no):= ⟨f,fd,ps,⟨qO! (by obtain⟨_,_,_,_,_,h⟩:=h;exact h.elim),λA outer s H args us vs Q E _ _ _ _ h=>by obtain⟨_,_,_,_,_,h⟩:=h;exact h.elim⟩,hb,F.kp,hm⟩
end
def zoh(K:W.Frag):Sp:=λvs H Q _=>∃(a:Addr)(ns:List Int),vs=[ag!]/\zuD H/\SqL K H a hZ!/\e1!<=63/\∀H',Q eQ! H'
theorem z55: ∀(ns:List Int),f7! H Y is! hZ!
 | []=>yo.nil | n::ns=>pr! yH (z55 ns)
theorem zrO{K:W.Frag} {x:Str} (F:za7 P w K mg R! CX0 n f fd ps (zjT ⟨mg,K⟩ M)) (h:∀ns:List Int,e1!<=63->∃s',M [.scr is!] []=bz! eQ!):za7 P w K mg R! CX0 n f fd ps (zoh K):= F.imp λvs H Q E ⟨a,ns,e,ho,hq,hl,q⟩=>by
  subst e;obtain⟨s',hs⟩:=h ns hl;refine⟨[],[],[.scr is!],⟨rfl,List.nodup_nil,λl xs z=>by simp at z,λxs z=>by simp at z,λb h z=>by simp at z,λa ha=>by simp at ha⟩,yo.one ?_,?_⟩
  ·refine g6! a hZ! ?_ (z55 ns);rcases hq with (z | z) | z
   ·rcases ho a with y | ⟨o,xs,y⟩;·rw[y]at z;cases z
    ·rw[y]at z;cases z
   ·exact C! z
   ·exact T! z
  ·rw[hs];intro v H' Y' stp dn;cases z0E dn;exact q H'
section
variable {X:Cx}{E:XK}{e a b c tg iter az:Expr}{es:aI!}{pos:Pos}{CX:CXT}
noncomputable def z2H(f:FE):FE:=e2! (eh! (match d with | .int i=>I! (c! (-i)) | _=>.no))
theorem z40(h:Y! a f):Y! (.UnaryOp .USub a pos) (z2H f):= yp (zrm zlZ h) λO H Q ⟨Y,ρ,s,r,en,h⟩=>by
  refine yR (k:=kV! (match d with | .int i=>eG! (aP! (-i)) s1 | _=>.no)) r en h _ λv H1 Y1 s1 d r1 av dn stp h1=>?_;cases d with
  | int i=>
   cases yy dn;exact aH! i (om! h1 r1 yH) | _=>exact h1.elim
noncomputable def z41(i:Int)(n:Nat):x!:=aT! n (λ(k:Nat)=>aP! (i+aa! k))
noncomputable def zdc(f:FA):FI:=ca! ay! (iT! (match ds with
 | [.int i,.int j]=>ae! (-(2 ^ 62)<=i/\i<2 ^ 62/\-(2 ^ 62)<=j/\j<2 ^ 62) (I! (z41 i (j-i).toNat,[])) | _=>.no))
theorem zeE{p:Pos} (hg:o8!)(hm:dS! fD!)(ha:RA X E [a,b] f)(hs:B! (aw! [a,b]=[d6! a,d6! b]))(bR:B! (aw! [b]=[d6! b])):RI X E tg (dw! fD! p [a,b]) (zdc f):= z8N (zhs hg hm ha hs bR) λO H Q ⟨Y,ρ,s,r,en,h⟩=>by
  refine⟨Y,ρ,s,r,en,dl! h (λvs H1 ⟨Y1,s1,ds,stp,dn,h1⟩=>?_)⟩;split at h1
  ·rename_i i j;split at h1
   ·rename_i hj;obtain⟨v,v',rfl,d1,d2⟩:=zaV dn;cases yy d1;cases yy d2;refine g6! i j hj (oQ! (λH2 Y2 s2 ag _ k=>⟨il! ?_,λhl=>?_⟩))
    ·have hi:k<fI! (j-i):=by simpa[z41] using (cV! hd)
     refine⟨hi,λx H' ⟨e1,e2⟩=>?_⟩;subst e1 e2;refine⟨Y2,.refl jJ!,?_⟩;rw[(show d=aP! (i+k) from by
      simp only[z41,_D,_aH hi,_ai,_y]at hd;exact hd.symm)];exact yH
    ·rw[<- (show t! (z41 i (j-i).toNat)=fI! (j-i) from by simp[z41])];exact hl
   ·exact h1.elim
  ·exact h1.elim
end
noncomputable def isK(o:bq! lJ!)(k:NameKind):Bool:=match o,k with
 | some .local,.local=>true | some .cell,.cell=>true | some .free,.free=>true | some .globalImplicit,.globalImplicit=>true | _,_=>false
theorem zhU(h:isK o k=d!):o=b! k:=by cases o with
 | none=>cases k<;>cases h | some j=>cases j<;>cases k<;>first | rfl | cases h
noncomputable def isF(k:NameKind):Bool:=match k with | .free=>true | _=>false
theorem zq4(h:k=bY!):isF k=d!:=by subst h;rfl
noncomputable def ziC(ko:Str->bq! lJ!)(names:bU! lJ!):Bool:=names.all λy=>! isF y.2||(isK (ko y.1) .cell||isK (ko y.1) bY!)
theorem z5R(h:ziC ko hn!=d!):∀y∈names,y.2=bY!->ko y.1=dH!\/ko y.1=b! bY!:=λy hy hf=>by
 have:=_Q.mp h y hy;rw[zq4 hf]at this;simp only[Bool.not_true,Bool.false_or,Bool.or_eq_true]at this;exact this.imp zhU zhU
noncomputable def zgQ(names:bU! lJ!):Bool:=names.all λy=>isK (names.lookup y.1) y.2
theorem z64(h:zgQ hn!=d!):∀y∈names,names.lookup y.1=b! y.2:=cN! (zhU (_Q.mp h y hy))
section
variable {X:Cx}{E:XK}{e a b c tg iter az:Expr}{es:aI!}{pos:Pos}{CX:CXT}
variable {scope:Scope}{aC:aI!}{fi:FI}{fg:FG}{ft:FT}{fe:FE}{g:TG}{aF py:Pos}
theorem zvS(hg:fj!)(hm:∃t,X.mg x=b! (ci! i))(hd:cp! (x==cP!)):Y! m7! (E! i):=let ⟨_,h⟩:=hm;zr2 hg h hd
theorem zI(N':aq!)(mp:fa!)(hc:b0!)(hi:RI X E tg ii! fi)(hg:mg! cC! tg g)(ck:z8l M! E mp g fg)(ht:md! cC! aC (tT M! E ft))(he:p9! cC! az fe) (aV:B! kw!)(aR:dq! (zgQ lK!))(aI:dq! sI!)(aX:dq! (kM! N' mp)) (hs:lv! (lm! x=lu!)):Y! (gi! [gK! 0]) (zt fi mp fg ft fe):= zpC N' mp hc hi hg ck ht he aV (z64 aR) (z5R aI) aX hs
theorem zda(i:Nat){y:Str}(N':aq!)(mp:fa!)(hN:X.N.Nodup)(hc:b0!)(hi:RI X E tg ii! fi)(hg:mg! cC! tg g)(ck:z8l M! E mp g fg)(ht:md! cC! aC (tT M! E ft))(he:p9! cC! az fe) (aV:B! kw!)(aR:dq! (zgQ lK!))(aI:dq! sI!)(aX:dq! (kM! N' mp))(hy:B! (ga! y))(cI:kq! (gZ! y)) (hs:lv! (lm! x=lu!)) (cJ:B! (mG! (gi! [gK! 0]) (b! gj!) qF!=rJ!)) (hf:g0! (f8! y\/e7! y)): RS X E (.Assign [gj!] (gi! [gK! 0]) aF) (yw i (zt fi mp fg ft fe)):= zfy N' mp hN hc hi hg ck ht he aV (z64 aR) (z5R aI) aX hy cI hs cJ hf
theorem zoB(i:Nat){y:Str}(N':aq!)(mp:fa!)(hN:X.N.Nodup)(hc:b0!)(hi:RI X E tg ii! fi)(hg:mg! cC! tg g)(ck:z8l M! E mp g fg)(ht:md! cC! aC (tT M! E ft))(he:p9! cC! az fe) (aV:B! kw!)(aR:dq! (zgQ lK!))(aI:dq! sI!)(aX:dq! (kM! N' mp))(hy:B! (ga! y))(cI:kq! (gZ! y)) (hs:lv! (lm! x=lu!)) (cJ:B! (mG! (gi! [gK! 0]) (b! gj!) qF!=rJ!)) (hf:g0! (f8! y\/e7! y)): RS X E (.Assign [gj!] (gi! [gK! 0]) aF) (yw i (z1U fi mp fg ft fe)):= zg1 N' mp hN hc hi hg ck ht he aV (z64 aR) (z5R aI) aX hy cI hs cJ hf
end
theorem zqe{K:W.Frag} {st:Stmt} (F:Fun K x av! st f fd)(S:S! N ps st)(hn:a5!=n) (body:ss! (z2G k (kx! av! dc! f aj)) ((z5B CX0 P w K mg R! N av! dc! f aj A au! s H E).nox.calm=d!-> RSs (z5B CX0 P w K mg R! N av! dc! f aj A au! s H E).nox E0 ic! fs)):za7 P w K mg R! CX0 (k+1) f fd ps (zjT ⟨mg,K⟩ (Mof N n fs)):=by
 subst hn;refine F.ok S (qO! ?_) (λaj A outer s H vs Q E hr h=>?_)
 ·obtain⟨Y,s,ds,_,dn,h⟩:=h;unfold Mof at h;split at h;·rename_i e;rw[dn.length];exact e
  ·exact h.elim
 ·obtain⟨Y,cn,ds,r,dn,h⟩:=h;refine⟨_,body aj A au! s H E hr (by show A.handled.isNone=d!;rw[show nH! from hr.hd];rfl),Y,zv N ds,cn,r,z1I dn,?_⟩;unfold Mof at h;split at h
  ·split at h
   ·rename_i d s' e;rw[e];intro fv H' Y' stp fd;cases fv with
    | rt v=>exact h v H' Y' stp fd | _=>exact b7! fd
   ·rename_i ρ s' e;rw[e];intro fv H' Y' stp fd;cases fv with
    | nx v=>exact h aA! H' Y' stp (by rfl) | _=>exact b7! fd
   ·exact h.elim
  ·exact h.elim
section
variable {all xs:x!}{ρ:Ev}{s:Sto}
theorem zag(I:Ev->Sto->g!):∀(xs:List D),(∀x∈xs,∀ ρ s,I ρ s->∃ ρ' s',body x ρ s=H! ρ' s'/\I ρ' s')->∀ ρ s,I ρ s->∃ ρ' s',yT [] all dM! xs ρ s=H! ρ' s'/\I ρ' s'
 | [],_,ρ,s,h=>⟨ρ,s,by simp[yT,okG],h⟩ | x::xs,hb,ρ,s,h=>by
  obtain⟨ρ1,s1,e1,h1⟩:=hb x (by simp) ρ s h;obtain⟨ρ2,s2,e2,h2⟩:=zag I xs (cN! (hb y (by simp[hy]))) ρ1 s1 h1;exact⟨ρ2,s2,by simp[yT,okG,e1,e2],h2⟩
theorem zbw(f:D->D):∀(xs acc:List D),(∀x∈xs,body x s=k! (b! (f x)))->im!+w!<=cap->qp [] all dM! xs acc s=k! (acc++n7! f)
 | [],acc,_,_=>by simp[qp,okG] | x::xs,acc,hb,hl=>by
  rw[qp];simp[okG,hb x (by simp),(show im!<cap from by simp at hl;lia),(zbw f xs (acc++[f x]) (cN! (hb y (by simp[hy]))) (by simp at hl ⊢;lia))]
end
section
variable (i j k n:Nat)(ρ:Ev)(s:Sto)(f g fa fb fc:FE)(d x y:D)(ds:x!)(ar:FA)(op c8:D->D->bi!)(ft gi:FT)(fs dU:FS)(M:Mir)(T:String)(fl fh fo:FO)(fi:FI)(fg:FG)(mp:fa!)(N:aq!)
@[simp] theorem ym:zd i ρ s=(match ρ[i]? with | some (some d)=>k! d | _=>.no):=V!
@[simp] theorem qE:eC d ρ s=k! d:=V!
@[simp] theorem yO:eOp op fa fb ρ s=D! (gM! s) (λx s1=>D! gg! (λy s2=>op x y s2)):=V!
@[simp] theorem yj:ze M ar ρ s=D! (ar ρ s) (jI! (M xs s1)):=V!
@[simp] theorem zL:zi ρ s=k! []:=V!
@[simp] theorem zq:zb f ar ρ s=ks! (λx s1=>D! (ar ρ s1) (λxs s2=>ba! (x::xs))):=V!
@[simp] theorem z1Q:vj ar ρ s=D! (ar ρ s) (jI! (ae! jg! (I! af!))):=V!
@[simp] theorem z26:qg ar ρ s=D! (ar ρ s) (jI! (ae! jg! (I! bx!))):=V!
@[simp] theorem z7S:zaQ ar ρ s=D! (ar ρ s) (jI! (ae! (jg!/\dj! xs) (.ok sL! (s1++[xs])))):=V!
@[simp] theorem zfW:eIs T f ρ s=eh! (gIs T d s1):=V!
@[simp] theorem zh2:z2H f ρ s=eh! (match d with | .int i=>I! (c! (-i)) | _=>.no):=V!
@[simp] theorem zvk:zsl f ρ s=ks! (λx s1=>match x with | .bl k=>I! (.bl (!k)) | _=>.no):=V!
@[simp] theorem z9t:zcS fa fb ρ s=D! (gM! s) (λx s1=>match x with | .bl true=>gg! | .bl false=>I! eN! | _=>.no):=V!
@[simp] theorem zrd:eIf ft fa fb ρ s=D! (ft ρ s) (λx s1=>aF! x (gM! s1) gg!):=V!
@[simp] theorem zaK:eSl f fl fh ρ s=ks! (λx s1=>D! (fl ρ s1) (λlo s2=>D! (fh ρ s2) (λhi s3=>dSl x lo hi s3))):=V!
@[simp] theorem jo:zC ρ s=k! a!:=V!
@[simp] theorem z1i:yx f ρ s=eh! (match d with | .int i=>I! h7! | _=>.no):=V!
@[simp] theorem vw:tOf f ρ s=eh! (match d with | .bl k=>I! k | _=>.no):=V!
@[simp] theorem zj3:zlT ft gi ρ s=D! (ft ρ s) (λx s1=>aF! x (gi ρ s1) (I! q!)):=V!
@[simp] theorem z2u:fOr ft gi ρ s=D! (ft ρ s) (λx s1=>aF! x (I! d!) (gi ρ s1)):=V!
@[simp] theorem vG:qT ft ρ s=D! (ft ρ s) (λx s1=>I! (!x)):=V!
@[simp] theorem zs8:zfl op c8 fa fb fc ρ s=D! (gM! s) (λx s1=>D! gg! (λy s2=>D! (op x y s2) (λz s3=>match z with
 | .bl true=>D! (fc ρ s3) (λw s4=>c8 y w s4) | .bl false=>ge! eN! | _=>.no))):=V!
@[simp] theorem zlv:zy fs dU ρ s=D! (fs ρ s) (λfl s1=>match fl with | .nx ρ'=>dU ρ' s1 | fl=>I! fl):=V!
@[simp] theorem ztC:yU ρ s=aN! ρ:=V!
@[simp] theorem zwB:fNo ρ s=.no:=V!
@[simp] theorem z1s:wq f ρ s=ks! (λ_ s1=>gH! ρ):=V!
@[simp] theorem yf:xb f ρ s=eh! (I! (.rt d)):=V!
@[simp] theorem kI:fIf ft fs dU ρ s=D! (ft ρ s) (λx s1=>aF! x (fs ρ s1) (dU ρ s1)):=V!
@[simp] theorem zR:yw i f ρ s=eh! (gH! (h3! i!)):=V!
@[simp] theorem zcq:zgj f fg ρ s=eh! (D! (fg d ρ s1) (fun ρ' s2=>H! ρ' s2)):=V!
@[simp] theorem zvp:zsj i j ar ρ s=D! (ar ρ s) (iT! (match ds with | [x,y]=>gH! (g8! (h3! fd!) j y) | _=>.no)):=V!
@[simp] theorem vX:yh i d ρ s=k! (h3! i!):=V!
@[simp] theorem z9H:yS i j (n! [x,y]) ρ s=k! (g8! (h3! fd!) j y):=V!
@[simp] theorem zdM:z1k fa fb fc ρ s=D! (fc ρ s) (λd s1=>D! (gM! s1) (λo s2=>D! (fb ρ s2) (λi s3=>match o,i with
 | .loc l,.int k=>match s3[l]? with
  | some xs=>match k5! k with
   | some j=>ae! m0! (H! ρ (s3.set l (iL! j d))) | none=>.no
  | none=>.no
 | _,_=>.no))):=V!
@[simp] theorem jZ:zQ f ρ s=eh! (match d with
 | .tup xs=>I! (xs,[]) | .lst xs=>I! (xs,[]) | .loc l=>match s1[l]? with | some xs=>I! (xs,[(l,xs)]) | none=>.no
 | _=>.no):=V!
@[simp] theorem zeS:jV ar ρ s=D! (ar ρ s) (iT! (match ds with
 | [.int j]=>ae! (-(2 ^ 62)<=j/\j<2 ^ 62) (I! (sk!,[])) | _=>.no)):=V!
@[simp] theorem znL:zdc ar ρ s=D! (ar ρ s) (iT! (match ds with
 | [.int i,.int j]=>ae! (-(2 ^ 62)<=i/\i<2 ^ 62/\-(2 ^ 62)<=j/\j<2 ^ 62) (I! (z41 i (j-i).toNat,[])) | _=>.no)):=V!
@[simp] theorem zhv:z5b ar ρ s=D! (ar ρ s) (iT! (match ds with
 | [x,y]=>match z9e s1 x,z9e s1 y with
  | some p,some q=>I! (z4Q p.1 q.1,p.2++q.2) | _,_=>.no
 | _=>.no)):=V!
@[simp] theorem jP:z5X fi fg fs ρ s=D! (fi ρ s) (λit s1=>yT it.2 it.1 (eO! (fg d ρ s) (fs ρ' s')) it.1 ρ s1):=V!
@[simp] theorem uH:zcY fi mp fg ft f ρ s=D! (fi ρ s) (λit s1=>qp it.2 it.1 (λd s=>D! (fg d jw! s) (fun ρ' s'=>D! (ft ρ' s') (λb s2=>aF! b (D! (f ρ' s2) (λd s3=>ge! i!)) (ba! a!)))) it.1 [] s1):=V!
@[simp] theorem ue:zt fi mp fg ft f ρ s=D! (zcY fi mp fg ft f ρ s) (jI! (I! bx!)):=V!
@[simp] theorem zee:z1U fi mp fg ft f ρ s=D! (zcY fi mp fg ft f ρ s) (jI! (ae! (dj! xs) (.ok sL! (s1++[xs])))):=V!
@[simp] theorem z4l:zU ρ s=ky!:=V!
@[simp] theorem z9y:zdv fa fb ρ s=D! (gM! s) (λo s1=>match o with
 | .loc l=>D! gg! (λd s2=>match s2[l]? with
  | some xs=>ae! (m0!/\w!<cap) (.ok aA! (oo! l (xs++[d]))) | none=>.no)
 | _=>.no):=V!
@[simp] theorem jt:wP [] ρ=[]:=V!
@[simp] theorem kz:wP (h7!::mp) ρ=(ρ[i]?).getD a!::jw!:=V!
@[simp] theorem kF:wP (a!::mp) ρ=a!::jw!:=V!
variable (a b:Int)(u v:Bool)(xs ys:x!)
@[simp] theorem z91:xf gd! fe! s=v! (a+b):=rfl
@[simp] theorem z3a:xf af! (n! ys) s=ae! (w!+cO!<=cap) (a7! (xs++ys)):=rfl
@[simp] theorem z77:xf bx! hz! s=ae! (w!+cO!<=cap) (bw! (xs++ys)):=rfl
@[simp] theorem zlu:z8T gd! fe! s=v! (a-b):=rfl
theorem zgN:yB gd! fe! s=ae! (or!<BIG/\b.natAbs<BIG) (v! (a*b)):=by
 simp only[yB,dII,iOk];split<;>(rename_i h;split at h<;>simp_all)
theorem zao:z45 gd! fe! s=ae! (0<b/\b.natAbs<BIG) (v! (a / b)):=by
 simp only[z45,dII,iOk];split<;>(rename_i h;split at h<;>simp_all)
theorem zpG:zeK gd! fe! s=ae! (0<b) (v! (a % b)):=by
 simp only[zeK,dII,iOk];split<;>(rename_i h;split at h<;>simp_all)
theorem zmt:zcT gd! fe! s=ae! (0<=b/\dv! b/\or!<fF!) (v! (a ^ pt!)):=by
 simp only[zcT,dII,iOk];split<;>(rename_i h;split at h<;>simp_all)
@[simp] theorem zt1:dLt gd! fe! s=fo! (a<b):=rfl
@[simp] theorem zu2:dLe gd! fe! s=fo! (a<=b):=rfl
@[simp] theorem zsX:dGt gd! fe! s=fo! (b<a):=rfl
@[simp] theorem zwk:dGe gd! fe! s=fo! (b<=a):=rfl
@[simp] theorem zbK:dEq gd! fe! s=fo! (a=b):=by rfl
@[simp] theorem z5x:dNe gd! fe! s=fo! (a≠b):=by
 rw[dNe,(show eqD gd! fe!=jb! a b from by
  simp only[eqD,zwg,PyData.eqv];rw[Bool.eq_iff_iff];rfl),_g (by constructor<;>rfl)];simp
@[simp] theorem zwo:dEq (.bl u) (.bl v) s=cb! (u==v):=by cases u<;>cases v<;>rfl
@[simp] theorem zwl:dNe (.bl u) (.bl v) s=cb! (u != v):=by cases u<;>cases v<;>rfl
end
theorem zm(h:ay!=H! ρ' s'):zy f g ρ s=g ρ' s':=by simp[h]
theorem vV(h:ay!=bz! (.rt d)):zy f g ρ s=bz! (.rt d):=by simp[h]
theorem z1K(I:Nat->Ev->Sto->g!):∀(xs:List D)(k:Nat),(∀j x,G! xs j x->∀ ρ s,I (k+j) ρ s->∃ ρ' s',body x ρ s=H! ρ' s'/\I (k+j+1) ρ' s')-> ∀ ρ s,I k ρ s->∃ ρ' s',yT [] all dM! xs ρ s=H! ρ' s'/\I (k+w!) ρ' s'
 | [],k,_,ρ,s,h=>⟨ρ,s,by simp[yT,okG],h⟩ | x::xs,k,hb,ρ,s,h=>by
  obtain⟨ρ1,s1,e1,h1⟩:=hb 0 x (by rfl) ρ s h;obtain⟨ρ2,s2,e2,h2⟩:=z1K (all:=all) I xs (k+1) (λj y hy ρ s hi=>by
   rw[(show k+1+j=k+(j+1) from by lia)]at hi ⊢;exact hb (j+1) y (by exact hy) ρ s hi) ρ1 s1 h1;refine⟨ρ2,s2,by simp[yT,okG,e1,e2],?_⟩;rw[(show k+t! (x::xs)=k+1+w! from by simp;lia)];exact h2
theorem z3x(h:G! (yr n) j x):j<n/\x=c! j:=by
 have hj:j<n:=by simpa[yr] using (cV! h)
 refine as! hj ?_;simp only[yr,_D,_aH hj,_ai,_y]at h;exact h.symm
theorem zg4(h:x∈yr n):∃j:Nat,j<n/\x=c! j:=by
 obtain⟨j,hj,e⟩:=gr! h;have:=z3x (by rw[_b hj,e]);exact a3! j (iV!).1 (iV!).2
theorem yQ:∀(ns:List Int),dj! is!
 | []=>rfl | n::ns=>yQ ns
theorem za6(i:Int):(aP! i).flat=d!:=rfl
theorem op3{f g:FE}{d:D->D->bi!}{ρ:Ev}{s s1 s2:Sto}{x y:D}{r:R D}(h1:ay!=I! x)(h2:g ρ s1=ba! y)(h:d x y s2=r):eOp d f g ρ s=r:=by rw[yO,h1,Rb,h2,Rb,h]
theorem zo5{f:FE}{ρ:Ev}{s s1:Sto}{x:D}{i:Nat}(h:ay!=I! x):yw i f ρ s=gH! (h3! fd!):=by rw[zR,h,Rb]
theorem uw{i:Nat}{ρ:Ev}{s:Sto}{d:D}(h:al! ρ i!):zd i ρ s=k! d:=by rw[ym,h]
theorem ac3{f:FE}{g:FA}{ρ:Ev}{s s1 s2:Sto}{x:D}{xs:x!}(h1:ay!=I! x)(h2:g ρ s1=ba! xs):zb f g ρ s=ba! (x::xs):=by rw[zq,h1,Rb,h2,Rb]
theorem zlp{a:FA}{ρ:Ev}{s s1:Sto}{xs:x!}(h:a ρ s=I! xs)(hc:jg!):qg a ρ s=I! bx!:=by rw[z26,h,Rb,_g hc]
theorem zfA{a:FA}{ρ:Ev}{s s1:Sto}{xs:x!}(h:a ρ s=I! xs)(hc:jg!):vj a ρ s=I! af!:=by rw[z1Q,h,Rb,_g hc]
theorem cl3{M:Mir}{a:FA}{ρ:Ev}{s s1:Sto}{xs:x!}{r:R D}(h:a ρ s=I! xs)(hM:M xs s1=r):ze M a ρ s=r:=by rw[yj,h,Rb,hM]
theorem zik{xs ys:x!}{s:Sto}(h:w!+cO!<=cap):xf af! (n! ys) s=a7! (xs++ys):=by rw[z3a,_g h]
theorem zuq{xs ys:x!}{s:Sto}(h:w!+cO!<=cap):xf bx! hz! s=bw! (xs++ys):=by rw[z77,_g h]
theorem z15:∀{xs:List D}{d:D},dj! xs->d∈xs->m0!
 | x::xs,d,f,h=>by
  simp only[flC,flN,_S]at f;rcases ep! h with rfl | h;·exact f.1
  ·exact z15 f.2 h
theorem kO.flatten(k:bJ! (cY! o->(∀vs,o≠bT!)->(∀ah,o≠.dT ah)->(∀ah,a4! ah->o≠hd!)->H' b=b! o))(f:dj! ys)(e:H' c=H c)(ha:c∈Y)(ro:∀b,Own H Y b->b∉Y)(w:∀b vs,b∉Y->cY! bT!->H' b=b! bT!)(h:kO mg H Y ys c):kO mg H' Y' ys c:=by
 rcases h with⟨vs,h1,h2⟩ | ⟨ah,h1,h2⟩ | ⟨o,ah,ys,h1,h2⟩ | ⟨ah,g,h1,h2⟩ | ⟨o,ah,ys,h1,e1,h2,fz⟩;·exact C! ⟨vs,mP!,h2.flatten k f⟩
 ·exact T! (C! ⟨ah,mP!,h2⟩)
 ·exact iu! (C! ⟨o,ah,ys,mP!,h2⟩)
 ·refine T! (iu! (C! ⟨ah,g,mP!,h2.imp (λzs vs k' hm q=>q.flatten k ?_) (λq b vs hm=>w b vs (ro b ⟨c,ha,ah,q,h1,hm⟩)) λb o vs q=>k b _ q (by intro vs z;cases z) (by intro vs z;cases z) (by intro vs g z;cases z)⟩));rcases hm with hm | hm;·exact (nr! (z15 f hm)).1
  ·exact (nr! (z15 f hm)).1
 ·subst e1;have f:dj! ys:=by exact f
  refine iu! (iu! ⟨o,ah,ys,mP!,rfl,h2.imp (λzs vs k' hm q=>q.flatten k ?_) (λq b vs hm z=>b7! (h2.fz fz.1 hm z)) λb o vs q=>k b _ q (by intro vs z;cases z) (by intro vs z;cases z) (by intro vs g z;cases z),fz⟩);rcases hm with hm | hm;·exact (nr! (z15 f hm)).1
  ·exact (nr! (z15 f hm)).1
end Dd
namespace Zz
open PySem.AutoSeq1 (wpAny_loadPart')
section
variable {P:Program}{w:World}{A:Around}{E:b1!}{s:Shared}
theorem zoE{k:Nat} (he:IsEnum L! e it k bx) (h1:Sit b L! it l k) (c1:h1! b l xs) (ex:G! xs k x) (ne:e≠it) (q:∀h',IsEnumOut h' e it (j! k+1) x at!->Sit b h' it l (k+1)->gw! at! ({cls:=dR!,data:=.seq #[bE! k fZ!,x]})-> (∀c o,c≠e->c≠it->dx! c->dK! c)->Q (b! f4!) {s with heap:=h',toks:=fZ!+1}):gu! P w A (pl! ez!) Q E s:=by
 have hT:pp! ez! gO!:=ce! he;refine _a (_dn (_ah hT _bu (_ax _bu hT F.entry_enumerate_next ?_ (F.args_enumerate_next_1 _))));obtain⟨hp,g,d,tk,os⟩:=s;show wpAny _ _ (field ez! 2 >>= _) _ _ _;refine _a (j4! he (_a (nx h1 c1 ex λg1 t1 s1=>?_)));have e1 := aJ! (s1.2 e ne) he;refine _a (j4! e1 ?_);refine _a (j4! e1 ?_);refine _a (wpAny_mkInt ?_);refine _a (_ao e1 (by simp) λg2 e2 s2=>?_);refine _a (_ao e2 (by simp) λg3 e3 s3=>?_);refine _a (_cT ?_);have e4:IsEnum (g3.push {cls:=dR!,data:=.seq #[bE! k tk,x]}) e it (k+1) bx:=_i _ e3;generalize hg4:g3.push {cls:=dR!,data:=.seq #[bE! k tk,x]}=g4 at e4;have sz:g3.objs.size=hp.objs.size:=by rw[s3.1,s2.1,s1.1]
 have el := _s he;have t4:g4.get? hp.objs.size=b! ({cls:=dR!,data:=.seq #[bE! k tk,x]}):=by rw[<- hg4,<- sz];exact hh!
 have i4:Sit b g4 it l (k+1):=t1.to λo z=>by rw[<- hg4];exact _i _ (zH s3 ne.symm (zH s2 ne.symm z))
 rw[sz];refine _a ?_;refine _a (j4! e4 (_m ?_));refine _a (_cN ?_);refine _a (j4! e4 (_a (_ao e4 (by simp) λg5 e5 s5=>?_)));refine _a ?_;refine _a (_ao e5 (by simp) λg6 e6 s6=>?_);refine _ao e6 (by simp) λg7 e7 s7=>?_;have up:∀c o,c≠e->g4.get? c=b! o->g7.get? c=b! o:=λc o n z=>zH s7 n (zH s6 n (zH s5 n z));refine _a (sP! (aH! _ (_m (q g7 e7 (i4.to λo z=>up _ o ne.symm z) (up _ _ (_cE el) t4) λc o n1 n2 z=>up c o n1 ((λc o n1 n2 z=>by rw[<- hg4];exact _i _ (zH s3 n1 (zH s2 n1 (zH s1 n2 z)))) c o n1 n2 z)))))
theorem zrY{k:Nat} (hh:nH!)(he:IsEnum L! e it k bx)(h1:Sit b L! it l k)(c1:h1! b l xs)(ex:xs[k]? = a!) (q:∀h',Heap.ExtBut it L! h'->Q a! {s with heap:=h'}):gu! P w A (pl! ez!) Q E s:=by
 have hT:pp! ez! gO!:=ce! he;refine _a (_dn (_ah hT _bu (_ax _bu hT F.entry_enumerate_next ?_ (F.args_enumerate_next_1 _))));show wpAny _ _ (field ez! 2 >>= _) _ _ _;refine _a (j4! he (_a (zha hh h1 c1 ex λh' x d8 hx'=>?_)));obtain⟨o,ho,hc⟩:=hx';exact _a (wpAny_isInstance (cB! ho hc) isSubtype_stop (_m (q _ d8)))
end
theorem zlo(b:Bool)(l:Addr)(xs:cF!): Meets (Builtin.«enumerate.__new__» (dT! [ar! gO!,eT!])) (λ_ R s=>h1! b l xs/\R (.ok (.ret (y! (eo! (mE! b l))))) {s with heap:=dg! (mE! b l) ({cls:=ar! gO!,data:=eY! #[ab!,.bool q!,f4!,rawInt 0,ab!,ab!]})}):= rt! (by
  obtain⟨hp,g,d,tk,os⟩:=s;obtain⟨c1,h⟩:=h;have bN:=sub_enumerate;have q1 := c1;obtain⟨o,hl⟩:∃o,hp.get? l=b! o:=by cases b with
   | true=>obtain⟨o,e,_⟩:=c1;exact dD! o | false=>obtain⟨o,e,_⟩:=c1;exact dD! o
  wp_walk using _av hl;refine wpAny_stack_any λst=>_m ?_;split
  ·rename_i c _ _ _ _ _;cases (c==Value.type gO!)
   ·wp_walk using _av hl,z90 q1;exact aH! _ h
   ·wp_walk using _av hl,z90 q1;exact aH! _ h
  ·wp_walk using _av hl,z90 q1;exact aH! _ h)
section
variable {P:Program}{w:World}{A:Around}{E:b1!}{s:Shared}
theorem zob(c1:h1! b l xs) (h:∀h',IsEnum h' dZ! at! 0 ab!->Sit b h' at! l 0->(∀c o,dx! c->dK! c)->Q (y! dZ!) {s with heap:=h'}): gu! P w A (call (ar! gO!) [eT!]) Q E s:=by
 refine callType_new F.called_enumerate (by decide) (F.typeCall_enumerate_1 _) (F.newCall_enumerate_1 _) (λobj=>F.args_object_init_2 obj _) F.entry_enumerate_new (zlo b l xs) ⟨c1,?_⟩;have z1:eo! (mE! b l)=dZ!:=_aK ..;have g2:=_w (mE! b l) (o:={cls:=ar! gO!,data:=eY! #[ab!,.bool q!,f4!,rawInt 0,ab!,ab!]}) rfl;have g1:fi! (dg! (mE! b l) ({cls:=ar! gO!,data:=eY! #[ab!,.bool q!,f4!,rawInt 0,ab!,ab!]})) at! (itO b l):=_i _ (_w _ (z69 b l));rw[z1]at g2;rw[z1];exact⟨ce! g2,h _ g2 (zby g1) λc o e=>_i _ (_i _ e)⟩
end
end Zz
namespace L2
open Zz
def Ite(K:W.Frag)(b:Bool)(l:Addr):It:= ⟨λi H=>∃xs x,Sq b K H l xs/\al! xs x, λi H v H'=>∃T x,H T=a!/\v=y! T/\H'=cf! T (n! [U!,x])/\∀xs,Sq b K H l xs->al! xs x, λi H=>∃xs,Sq b K H l xs/\w!<=i⟩
theorem zie{P:Program}{w:World}{K:W.Frag}{br:aI!}{kt:Nat}{tp:Pos}{b:Bool}{e it l:Addr}(ne:e≠it): zkj P w K (jc! br tp) (Ite K b l) [e,it] e (λi h=>(∃bx,IsEnum h e it (aa! i) bx)/\Sit b h it l i) where
 mem:=by simp
 obj:=λi h ⟨⟨bx,he⟩,h1⟩ c hc=>by
  rcases (by simpa using hc) with rfl | rfl;·exact bQ! he (λv z=>by simp at z)
  ·exact h1.ob
 keep:=λi h h' ⟨⟨bx,he⟩,h1⟩ k=>⟨⟨bx,k e (by simp) _ he⟩,h1.to λo z=>k it (by simp) o z⟩;item:=by
  intro X hP hw hK hc i ae s O H E I hf ⟨⟨bx,he⟩,h1⟩ ⟨xs,x,qx,ex⟩;subst hP hw hK;obtain⟨ix,rx,cx⟩:=I.sq qx;obtain⟨u,hu,ru⟩:=rx.get ex;refine zoE he h1 cx (by simpa using hu) ne λg a1 a2 a3 hk=>aH! _ (wpAny_letOwnedTupleGo_enum a1 λg2 e2 s2=>?_);obtain⟨f0,f1,f2,f3,f4,f5⟩:=hf e (by simp);have new := I.fpOk am! (mF! _);have el := _E (_s he);refine⟨f4!,cf! at! (n! [U!,x]),((I.turnedL (t':=fZ!+1) (λc o n z=>hk c o (λt=>n (by simp[t])) (λt=>n (by simp[t])) z) hf).turned (t':=fZ!+1) (λc o n z=>zH s2 n z) f0 f1 f3 f4 f5).track new ⟨?_,[bE! i fZ!,u],eX! (cl! _) (eX! ru cD!),⟨_,(zH s2 el.symm a3),rfl,rfl,_,rfl⟩⟩,rfl,⟨_,x,new.1,rfl,rfl,λzs qz=>?_⟩,⟨f9! (by simpa using e2),a2.to λo z=>zH s2 ne.symm z⟩,λc hc=>?_⟩;·show 2<=aY!;decide
  ·rw[I.sq_inj qz qx];exact ex
  ·rw[zM (by
    rcases (by simpa using hc) with rfl | rfl;·exact el
    ·exact _E h1.lt)];exact (hf c hc).1
 done:=by
  intro X hP hw hK hc i ae s O H E I hf ⟨⟨bx,he⟩,h1⟩ ⟨xs,qx,hl⟩;subst hP hw hK;obtain⟨ix,rx,cx⟩:=I.sq qx;have lx:=rx.length;obtain⟨f0,f1,f2,f3,f4,f5⟩:=hf it (by simp);exact zrY ht! he h1 cx (by simp;lia) λg hk=>g4! (I.turned (λc o n z=>hk c o n z) f0 f1 f3 f4 f5)
 self:=λ_ _ _ _ _ ⟨⟨_,he⟩,_⟩ h=>wpAny_pyIter_enum he h
theorem znG{br:aI!}{kt:Nat}{tp:Pos} {p pos:Pos}(hg:iE! gO!)(hm:dS! gO!)(ha:PA X [a] ta)(hs:B! (aw! [a]=d6! a::aw! []))(au:eg! [] (·.1)): PI X (jc! br tp) (dw! gO! p [a]) (λO H R=>ta O H λvs H1=>∃l b,vs=[eT!]/\(∃xs,Sq b X.K H1 l xs)/\R (Ite X.K b l) H1):=by
 refine λae s O H R I h=>_ar (z2g I hg hm (u:=ar! gO!) (by decide +kernel) (_ab (thn (ha pos ae s O H _ I h) λus s1 ⟨vs,H1,I1,r1,q1⟩=>?_) hs au) (by decide) (by decide));obtain⟨l,b,rfl,⟨xs,qx⟩,q⟩:=q1;obtain⟨u,rfl,ru⟩:=vals1 r1;cases ru;obtain⟨ix,rx,cx⟩:=I1.sq qx;refine zob cx λg he h1 hk=>(wpAny_pyIter_enum he ⟨_,_,_,_,H1,rfl,of! hk,zie (Nat.succ_ne_self _),⟨f9! he,h1⟩,λc hc=>?_,q⟩);have cz:iR!<=c:=by
  rcases (by simpa using hc) with rfl | rfl;·exact _cq _
  ·exact am!
 exact r1! cz cz
theorem z76(ns:h!):∀n,n<=e1!->preSum (λi=>i9! i) n=(ns.take n).sum
 | 0,_=>by simp[preSum] | n+1,h=>by
  rw[preSum,z76 ns n (by lia),<- List.take_append_getElem ((by lia)),List.sum_append,(show i9! n=ns[n] from by simp[_b (show n<e1! by lia)])];simp only[_aN,List.sum_nil,_a0]
theorem ziW(hc:b0!):mk! X "sum" (∃(b:Bool)(p:Addr)(ns:List Int),xs=[cg!]/\Sq b X.K H p hZ!/\Q (c! ns.sum) H):=by
 intro ae s O H xs us Q I r h;obtain⟨b,p,ns,rfl,hq,q⟩:=h;obtain⟨u,rfl,ru⟩:=lj!;cases ru;obtain⟨af,rv,co⟩:=I.sq hq;refine call_sum_walkG (sF! ht! co ?_);subst e2;refine⟨_,_,_,_,_,_,(λi=>i9! i),rfl,W,st,bd,(λi v e=>let ⟨t,e1,_⟩:=z81 rv e;as! t e1),λh' tk t' hk=>?_⟩;rw[(show iS!=e1! from by simp[(by have:=rv.length;simp at this;omega)]),z76 ns _ am!,List.take_length];exact⟨c! ns.sum,H,mu! (bx h' hk),cl! t',q⟩
end L2
namespace Dd
open L2
section
variable {X:Cx}{E:XK}{e a b c tg iter az:Expr}{es:aI!}{pos:Pos}{CX:CXT}
theorem zup{mg:Gm}{H:Hp}{Y:ao!}{d d' d2:D}{vs:aG!}(h:oU! [d,d',d2]):∃v v' v2,vs=[v,v',v2]/\fz!/\je! d' v'/\je! d2 v2:=by
 obtain⟨v,r,rfl,h1,v',r',rfl,h2,v2,r2,rfl,h3,rfl⟩:=h;exact⟨v,v',v2,rfl,h1,h2,h3⟩
noncomputable def zwr(i j k:Nat)(f:FA):FS:=ca! ay! (iT! (match ds with | [x,y,z]=>gH! (g8! (g8! (h3! fd!) j y) k z) | _=>.no))
def znc:x!->bi!
 | [d],s=>match D! (zY s d) intsOf with | some ns=>v! ns.sum | none=>.no
 | _,_=>.no
theorem zrf(hc:b0!):∃r,jR! X "sum" r/\z2A X E r znc:=km! (ziW hc) (by
 unfold znc at h;split at h
 ·split at h
  ·rename_i ns e;obtain⟨xs,e1,e2⟩:=_bd.mp e;have:=z0O e2;subst this;obtain⟨v,rfl,dn⟩:=lw!;obtain⟨a,ws,rfl,q1,q2⟩:=jI r e1 dn;cases z0Q q2;obtain⟨b,q⟩:=zev q1;exact⟨b,a,ns,rfl,q,e9! yH⟩
  ·exact h.elim
 ·exact h.elim)
def z2K:Nat->x!->x!
 | _,[]=>[] | i,x::xs=>n! [U!,x]::z2K (i+1) xs
theorem jD:∀(i:Nat)(xs:List D),t! (z2K i xs)=w!
 | _,[]=>rfl | i,x::xs=>by simp[z2K,jD (i+1) xs]
theorem zau:∀{i k:Nat}{xs:List D}{d:D},G! (z2K i xs) k d->∃x,G! xs k x/\d=n! [c! (aa! (i+k)),x]
 | _,_,[],_,h=>by cases h | i,0,x::xs,d,h=>by simp[z2K]at h;exact⟨x,by rfl,by simp[h]⟩ | i,k+1,x::xs,d,h=>by
  simp only[z2K,_e]at h;obtain⟨y,h1,h2⟩:=zau h;refine⟨y,by exact h1,?_⟩;rw[h2,show i+1+k=i+(k+1) by lia]
noncomputable def z2M(f:FA):FI:=ca! ay! (iT! (match ds with
 | [x]=>match z9e s1 x with
  | some p=>I! (z2K 0 p.1,p.2) | none=>.no
 | _=>.no))
theorem zcp{p tp:Pos}{br:aI!}{kt:Nat} (hg:iE! gO!)(hm:dS! gO!)(ha:RA X E [a] f)(hs:B! (aw! [a]=d6! a::aw! []))(au:eg! [] (·.1)): RI X E (jc! br tp) (dw! gO! p [a]) (z2M f):= z8N (znG hg hm ha hs au) λO H Q ⟨Y,ρ,s,r,en,h⟩=>by
  refine⟨Y,ρ,s,r,en,dl! h (λvs H1 ⟨Y1,s1,ds,stp,dn,h1⟩=>?_)⟩;split at h1
  ·split at h1
   ·rename_i p ex;obtain⟨v,rfl,d1⟩:=z2q dn;obtain⟨ie,b1,a1,rfl,k1⟩:=zds dO! ex d1;obtain⟨w1,q1,_⟩:=k1 H1 Y1 s1 (.refl dO!) ie;refine g6! a1 b1 (as! w1 q1) (oQ! (λH2 Y2 s2 ag og i=>⟨il! ?_,λhl=>?_⟩))
    ·obtain⟨x,e1,rfl⟩:=zau hd;obtain⟨w1,q1,n1⟩:=k1 H2 Y2 s2 ag og;obtain⟨u1,g1,m1⟩:=n1.get e1;refine⟨ck! w1 u1 q1 g1,λz H' ⟨T,p,hT,ez,eH,hp⟩=>?_⟩;subst ez eH;have e3:=hp w1 q1;rw[g1]at e3;cases e3;have cB:=uh.lay (o:=n! [U!,u1]) ag.rep hT (by intro _ z;cases z);refine a3! Y2 cB ?_;simp only[_at];exact g6! T [U!,u1] yA ((pr! yH (yo.one m1)).mono cB)
    ·obtain⟨w1,q1,n1⟩:=k1 H2 Y2 s2 ag og;refine a3! w1 q1 ?_;rw[n1.length];simpa only [jD] using hl
   ·exact h1.elim
  ·exact h1.elim
end
section
variable (i j k:Nat)(ρ:Ev)(s:Sto)(ar:FA)
@[simp] theorem zov:z2M ar ρ s=D! (ar ρ s) (iT! (match ds with
 | [x]=>match z9e s1 x with
  | some p=>I! (z2K 0 p.1,p.2) | none=>.no
 | _=>.no)):=V!
end
end Dd
namespace L2
noncomputable def znM(n:Nat):aG!:=aT! n (λk=>V.int (aa! k))
theorem z6H:∀{xs:List V}{us:List Value},iK!=w!->(∀(j:Nat) u,G! us j u->∃x,G! xs j x/\wQ x u)->jo!
 | [],[],_,_=>cD! | [],_::_,h,_=>by cases h | _::_,[],h,_=>by cases h | x::xs,u::us,h,k=>by
  obtain⟨y,e,r⟩:=k 0 u (by rfl);have:y=x:=by simpa using e.symm
  subst this;exact eX! r (z6H (by simpa using h) λj v hv=>k (j+1) v (by exact hv))
theorem zcf{p p2 pos bH:Pos} (hc:b0!) (hg:iE! en!) (hm:dS! en!) (cK:o8!) (cj:dS! fD!) (ha:PA X [a] ta) (bR:B! (aw! [a]=[d6! a])) (hs:B! (aw! [fJ! (fP! fD!) [a] [] bH]=d6! (fJ! (fP! fD!) [a] [] bH)::aw! [])) (au:eg! [] (·.1)): W! (dw! en! p [fJ! (fP! fD!) [a] [] bH]) (gS! (ta O H λvs H1=>∃j:Int,vs=[c! j]/\0<=j/\dv! j/\∀l,H1 l=a!->Q eT! (upd H1 l (X! (znM kS!))))):=by
 intro ae s O H Q I h;refine _ar (z2g I hg hm (u:=dk!) (by decide +kernel) (_ab ?_ hs au) (by decide) (by decide));refine _cP (_ar (z2g I cK cj boot_range (_ab (thn (ha bH ae s O H _ I h) λus s1 ⟨vs,H1,I1,r1,q1⟩=>?_) bR rfl) (by decide) (by decide)));obtain⟨j,e,q0,q2,q⟩:=q1;subst e;obtain⟨u,rfl,⟨t,rfl⟩⟩:=vals1 r1;refine call_range_1 (_c6 ?_);have bf:Builtin.Range.rangeSize 0 j 1=eM! kS!:=by rw[rangeSize_one];split<;>lia
 refine call_list_range ht! (IsRange.new ..) (small_one (by lia) (by lia) (by lia) (by lia)) bf (by lia) λh' tk acc c' hk hS bK=>?_;have I2:cQ! H1 ({s1 with heap:=qs! ({cls:=mb!,data:=eY! #[bE! 0 s1.toks,ci! j,bE! 1 (s1.toks+1)]}),toks:=s1.toks+1+1}):=of! (mj! _ e);have hl:t! (znM kS!)=kS!:=by simp[znM]
 refine⟨y! _,upd H1 _ (X! (znM kS!)),I2.laid hk am! ?_,rfl,q _ (I2.hok.fresh am!)⟩;exact⟨by rw[hl];exact _G (show dv! kS! by lia) (by decide),acc.toList,c',(z6H (by simp[bK.1,hl]) λi v hv=>by
  obtain⟨m3,rfl⟩:=bK.2 i v (by simpa using hv);have hi:i<kS!:=by
   have:=cV! hv;simp[bK.1]at this;lia
  exact⟨U!,by simp[znM,hi],⟨m3,by simp⟩⟩),by exact hS⟩
end L2
namespace Dd
open L2
section
variable {X:Cx}{E:XK}{a:Expr}{pos:Pos}
theorem zkw(n:Nat):f7! H Y (yr n) (znM n):=by
 unfold yr znM;induction i3! with
 | nil=>exact yo.nil | cons k ks ih=>exact pr! yH ih
noncomputable def eLR(f:FA):FE:=ca! ay! (iT! (match ds with
 | [.int j]=>ae! (0<=j/\dv! j) (I! (X! sk!)) | _=>.no))
theorem z7y{p p2 bH:Pos} (hc:b0!)(hg:iE! en!)(hm:dS! en!)(cK:o8!)(cj:dS! fD!)(ha:RA X E [a] f) (bR:B! (aw! [a]=[d6! a])) (hs:B! (aw! [fJ! (fP! fD!) [a] [] bH]=d6! (fJ! (fP! fD!) [a] [] bH)::aw! []))(au:eg! [] (·.1)): Y! (dw! en! p [fJ! (fP! fD!) [a] [] bH]) (eLR f):= yp (zcf hc hg hm cK cj ha bR hs au).freeze λO H Q ⟨Y,ρ,s,r,en,h⟩=>by
  refine⟨Y,ρ,s,r,en,dl! h (λvs H1 ⟨Y1,s1,ds,stp,dn,h1⟩=>?_)⟩;split at h1
  ·rename_i j;split at h1
   ·rename_i hj;obtain⟨v,rfl,d1⟩:=z2q dn;cases yy d1;exact⟨j,rfl,hj.1,hj.2,z0N dO! h1 (zkw _)⟩
   ·exact h1.elim
  ·exact h1.elim
@[simp] theorem zpO(f:FA)(ρ:Ev)(s:Sto):eLR f ρ s=ks! (iT! (match ds with
 | [.int j]=>ae! (0<=j/\dv! j) (I! (X! sk!)) | _=>.no)):=V!
end
noncomputable def vk(ft:FT)(fb:FS):Nat->Ev->ee! Fl
 | 0,_,_=>.no | k+1,ρ,s=>D! (ft ρ s) (λb s1=>aF! b (D! gg! (λfl s2=>match fl with
   | .nx ρ'=>vk ft fb k ρ' s2 | .ct ρ'=>vk ft fb k ρ' s2 | .bk ρ'=>H! ρ' s2 | .rt d=>ba! (.rt d))) (gH! ρ))
theorem z4j: ∀{k:Nat}{ρ:Ev}{s:Sto},vk ft fb k ρ s≠.no->vk ft fb (k+1) ρ s=vk ft fb k ρ s
 | 0,ρ,s,h=>fn! h | k+1,ρ,s,h=>by
  rw[vk]at h ⊢;conv=>rhs;rw[vk]
  cases e:ft ρ s with
  | no=>rfl | ex c t=>rfl | ok b s1=>
   rw[e]at h;simp only[Rb]at h ⊢;cases b with
   | false=>rfl | true=> cases e2:gg! with
    | no=>rfl | ex c t=>rfl | ok fl s2=>
     rw[e2]at h;cases fl with
     | nx ρ'=>exact z4j h | ct ρ'=>exact z4j h | bk ρ'=>rfl | rt d=>rfl
theorem zeC(h:vk ft fb k ρ s≠.no)(hm:k<=m):vk ft fb m ρ s=vk ft fb k ρ s:=by induction hm with
 | refl=>rfl | step _ ih=>rw[z4j (by rw[ih];exact h),ih]
open Classical in
def z2e(ft:FT)(fb:FS):FS:=e2! (if h:∃k,vk ft fb k ρ s≠.no then vk ft fb h.choose ρ s else .no)
theorem z3s(h:vk ft fb k ρ s=r)(hr:r≠.no):z2e ft fb ρ s=r:=by
 subst h;have hx:∃k,vk ft fb k ρ s≠.no:=as! k hr;unfold z2e;rw[qP! hx];rcases Nat.le_total k hx.choose with z | z;·exact zeC hr z
 ·exact (zeC hx.choose_spec z).symm
theorem z70(hp:PassesOwn (oX! X.w) X.A az! X.xe)(hc:RT X E c ft)(hb:RSs X E dM! fb):RS X E (.While c dM! [] pos) (z2e ft fb):= z0C (zlc hp hc hb) λD O H ⟨Y,ρ,s,r,en,h⟩=>by
  unfold z2e at h;split at h
  ·refine⟨λm O H=>Wst M! E H O (FlD M!) (vk ft fb m) (zjn D),⟨_,Y,ρ,s,r,en,h⟩,?_⟩;rintro m O H ⟨Y,ρ,s,r,en,h⟩;cases m with
   | zero=>exact h.elim | succ m=>
    refine⟨Y,ρ,s,r,en,dl! h (λb H1 ⟨Y1,s1,b',stp,eb,h1⟩=>?_)⟩;cases (eb);cases b with
    | false=> exact okR.here (b:=nv! O) h1 stp.rep it! | true=>
     refine⟨λO' H'=>Wst M! E H' O' (FlD M!) (vk ft fb m) (zjn D),λO' H' q=>⟨m,_ce _,q⟩,Y1,ρ,s1,dO!,it!,dl! h1 (λfv H2 ⟨Y2,s2,fl,ag,dn,h2⟩=>?_)⟩;cases fl with
     | nx ρ'=> cases fv with
      | nx O'=>exact⟨Y2,ρ',s2,jJ!,dn,h2⟩ | _=>exact b7! dn
     | ct ρ'=> cases fv with
      | ct O'=>exact⟨Y2,ρ',s2,jJ!,dn,h2⟩ | _=>exact b7! dn
     | bk ρ'=> cases fv with
      | bk O'=>exact okR.here (b:=nv! O') h2 ag.rep dn | _=>exact b7! dn
     | rt d=> cases fv with
      | rt v=>exact okR.here (Q:=zjn D) h2 ag.rep dn | _=>exact b7! dn
  ·exact h.elim
end Dd
namespace PySem
open PySem.AutoSeq1 (wpAny_loadPart')
open MeetsSeq MeetsSeq2 SeqAt
theorem zfC(f:Nat->β->Sem (ForInStep β))(I:Nat->β->eL!)(Q:β->eL!)(n:Nat) (turn:∀i b s,i<n->I i b s->fR! M A (f i b) (λr s'=>match r with | .yield b'=>I (i+1) b' s' | .done b'=>Q b' s') E) (fin:∀b s,I n b s->Q b s)(b:β)(h:I 0 b s):fR! M A (forIn ([0:n]:Std.Legacy.Range) b f) Q E:=by
 rw[Std.Legacy.Range.forIn_eq_forIn_range'];refine wpAny_forIn_list f (λkE b s'=>∃i,kE=os! i (n-i)/\i<=n/\I i b s') _ ?_ ?_ _ _ ⟨0,by simp,gL!,h⟩
 ·rintro x kE b s' ⟨i,hr,hi,hI⟩;have bv:i<n:=by
   rcases Nat.lt_or_ge i n with h | h;·exact h
   ·rw[Nat.sub_eq_zero_of_le h]at hr;simp at hr
  obtain⟨rfl,fm⟩:x=i/\kE=os! (i+1) (n-(i+1)):=by
   rw[(show n-i=(n-(i+1))+1 from by omega)]at hr;injection hr with h1 h2;exact as! h1 h2
  refine _aa (turn x b s' bv hI) (λr s2 hr=>?_) λ_ _ h'=>h';cases r with
  | done b'=>exact hr | yield b'=>exact⟨x+1,fm,bv,hr⟩
 ·rintro b s' ⟨i,hr,hi,hI⟩;have:i=n:=by
   have:=_au List.length hr;simp at this;omega
  subst this;exact fin _ _ hI
theorem z8m(l:Addr) (items:cF!) (n:Nat) (dd:oY!) (sl:Array aU!) (x:Value) (e:eB! d2!) (j:Nat) (hj:j<hR!) (pR:e items[j]=d!) (gn:∀m (hm:m<items.size),m<j->e items[m]=q!): Meets (Builtin.«tuple.index» (dT! [eT!,x])) (λA R s=>f3! l ({cls:=dR!,dict:=dd,data:=.seq hm! n,slots:=sl})/\(∀y,y∈hm!->EqAt A.in1 s y x (e y))/\R (.ok (.ret (bE! j fZ!))) {s with toks:=fZ!+1}):= rt! (by
  obtain⟨hp,g,d,tk,os⟩:=s;obtain⟨hl,he,h⟩:=h;wp_walk using _av hl,zfC _ (λi b s'=>b.1=a!/\s'=fc! hp g d tk/\i<=j) _ _;case turn=>
   rintro i ⟨b1,b2⟩ s' hi ⟨hb,rfl,aJ⟩;rw[(Nat.min_self _)]at hi;rw[Array.getElem?_eq_getElem hi];refine _a (he _ (Array.getElem_mem hi) ni! w _ _ ?_);rcases _aS aJ with lt | rfl
   ·wp_walk;exact aH! rfl lt
   ·wp_walk;exact aH! _ h
  case fin=> omega
  case h=>exact aH! rfl gL!)
end PySem
namespace L2
section
variable {X:Cx}{o e:Expr}{to:TE}{t:TA}{name:Str}{ao ak:Pos}{id:String}{r:V->aG!->Hp->eU!}
theorem zpD(slot:Slot c2! iQ! id)(gK:typeOf (.builtin id)=d3! (ar! "method_descriptor"))(hm:MtR X id r)(ho:W! o to)(ha:PA X [e] t) (am:B! (l7! o iQ! gI!=gI!)) (aH:dq! (hD! (hX! ak [e]) (! x.1)&&hD! (nF! ak [] az!) (gq! x.1) && bl! (t! [e]+t! ([]:g2!)+(nG! ([]:g2!) 0 1)<30))) (ai:dq! p6!)(hs:B! (aw! [e]=d1!::aw! []))(aw:B! ((hX! ak []).any (·.1)=q!)): W! (fJ! (mN! o iQ!) [e] [] ak) (gS! (to O H (hO! ((∃p vs,x=cg!/\H1 p=b! (n! vs))/\t O H1 λxs H2=>r x xs H2 Q)))):=by
 refine iP! (_b4 am aH ai rfl (thn (ho ae s O H _ I h) λv s1 ⟨x,H1,I1,r1,ty,q1⟩=>?_));obtain⟨p,vs,rfl,hp⟩:=ty;cases r1;obtain⟨_,af,_,ob,e1,c1,d1,n,w1⟩:=I1.hok p _ hp;refine⟨c2!,id,PySem.F.plainAttrs_tuple,slot,gK,a3! ob e1 c1,λa e=>?_,?_⟩
 ·cases e;exact a3! ob e1 d1
 have hA:=ha ak ae s1 O H1 _ I1 q1;rw[hs]at hA ⊢;exact _b5 (by show (q!||(hX! ak []).any (·.1))=q!;rw[aw]<;>rfl) (_bz (thn hA λus s2 ⟨vs,H2,I2,r2,q2⟩=>hm ae s2 O H2 cg! vs _ us Q I2 rfl r2 q2))
theorem z4E:∀{ns:List Int}{af:List Value},xt hZ! af->rL! af
 | [],_,.nil=>cD! | n::ns,_,.cons r rs=>by
  obtain⟨t,rfl⟩:=r;exact .cons n t (z4E rs)
def zuW:V->aG!->Hp->eU!:=λx vs H Q=>∃(p:Addr)(ns:List Int)(k:Int),x=cg!/\vs=[c! k]/\H p=b! (n! hZ!)/\k∈ns/\Q (c! (p5!:Nat)) H
theorem zdR:MtR X "tuple.index" zuW:=by
 intro ae s O H x vs v us Q I rx rv h;obtain⟨p,ns,k,rfl,rfl,hp,hk,q⟩:=h;cases rx;obtain⟨u,rfl,⟨t,rfl⟩⟩:=vals1 rv;obtain⟨_,af,r,ob,e1,c1,d1,n,w1⟩:=g9! p hp;have hi:=z4E r;have ap:=hi.length;have hj := List.idxOf_lt_length_iff.mpr hk;obtain⟨cls,dd,data,sl⟩:=ob;simp only at c1 d1 w1;subst c1 d1 w1;refine _bh PySem.F.slot_tuple_index (ce! e1) PySem.F.entry_tuple_index (PySem.F.args_tuple_index_2 _ _) (z8m p fE! n _ sl (ci! k) (isInt k) p5! (by simpa[ap] using hj) ?_ ?_) ⟨e1,cN! ((eq_isInt k t hi y (by simpa using hy)).at _ _),?_⟩
 ·show isInt k af[p5!]=d!;rw[isInt_at k hi _ (by omega) hj];simpa using _cU hj
 ·intro j m4 bv;show isInt k af[j]=q!;rw[isInt_at k hi j (by simpa using m4) (by omega)];exact ne_of_lt_idxOf bv _
 ·exact⟨c! (p5!:Nat),H,mu! (gQ! e),cl! fZ!,q⟩
end
end L2
namespace Dd
open L2
section
variable {X:Cx}{E:XK}{o e:Expr}{pos:Pos}
noncomputable def zmF(fo fv:FE):FE:=ca! (fo ρ s) (λo s1=>match o with
 | .tup ds=>D! (fv ρ s1) (λd s2=>match qL! ds,d with
  | some ns,.int k=>ae! (k∈ns) (ba! (c! (p5!:Nat))) | _,_=>.no)
 | _=>.no)
theorem zdP{ao:Pos} (ho:Y! o fo)(hv:fA! fv)(am:B! (l7! o "index" gI!=gI!)) (aH:dq! (hD! (hX! pos [e]) (! x.1)&&hD! (nF! pos [] az!) (gq! x.1) && bl! (t! [e]+t! ([]:g2!)+(nG! ([]:g2!) 0 1)<30))) (ai:dq! (sy! oe!))(hs:B! (aw! [e]=d1!::aw! []))(aw:eg! [] (·.1)): Y! (fJ! (mN! o "index") [e] [] pos) (zmF fo fv):= yp (zpD PySem.F.slot_tuple_index PySem.F.type_tuple_index zdR ho (wV hv z1e hs) am aH ai hs aw) λO H Q ⟨Y,ρ,s,r,en,h⟩=>by
  refine⟨Y,ρ,s,r,en,dl! h (λov H1 ⟨Y1,s1,od,stp,dn,h1⟩=>?_)⟩;cases od with
  | tup ds=>
   refine as! (by
    obtain⟨a,vs,rfl,e1,_⟩:=dn;exact fO! a vs e1) ⟨Y1,ρ,s1,dO!,it!,dl! h1 (λv H2 ⟨Y2,s2,d,ag,ax,h2⟩=>?_)⟩;split at h2
   ·rename_i ns k ei;split at h2
    ·rename_i hk;obtain⟨a,vs,rfl,e1,e2⟩:=me!;rw[z0O ei]at e2;cases z0Q e2;cases yy ax;exact⟨a,ns,k,rfl,rfl,e1,hk,om! h2 jJ! yH⟩
    ·exact h2.elim
   ·exact h2.elim | _=>exact h1.elim
@[simp] theorem zpA (fo fv:FE)(ρ:Ev)(s:Sto):zmF fo fv ρ s=D! (fo ρ s) (λo s1=>match o with
 | .tup ds=>D! (fv ρ s1) (λd s2=>match qL! ds,d with
  | some ns,.int k=>ae! (k∈ns) (ba! (c! (p5!:Nat))) | _,_=>.no)
 | _=>.no):=V!
end
def zqp(P:Program)(w:World)(K:W.Frag)(mg:Str->aU!)(x:Str)(tb:bU! Str):g!:= ∃a o es ep,fx! x ag!/\(a==sysModules)=q!/\o0!=b! o/\o.ExactDict/\ih!=.dict es ep/\PySem.KeysOf (wg P w) es/\ (∀k y,mM!=b! y->∃f,pu! (wg P w).is es (T! k)=b! ft!/\fx! y ft!)/\∀k,mM!=a!->pu! (wg P w).is es (T! k)=a!
theorem zbd(r:wQ (aD! k) u):(wg P w).is (T! k) u=d!:=by
 obtain⟨t,e⟩:=(r);subst e;exact z7E k t
section
variable {X:Cx}{E:XK}{e a b c:Expr}{es:aI!}{pos:Pos}{CX:CXT}
theorem zef{O:L2.St} (I:N!)(hk:X.K.lookup d=b! o)(hx:o.ExactDict)(hd:ih!=.dict en ep)(ks:PySem.KeysOf (wg aV! X.w) en): s.heap.MapOf (wg aV! X.w) d (λk=>pu! (wg aV! X.w).is en k):=⟨o,en,ep,I.kIn d o hk,hx,hd,ks,bk! rfl⟩
noncomputable def zu8(tb:bU! Str)(f:FE):FE:=e2! (eh! (match d with
 | .str k=>match mM! with | some y=>I! (.fn y) | none=>.no
 | _=>.no))
theorem zsZ(hT:zqp aV! X.w X.K fG! x tb)(hg:fj!)(he:fA! f)(hs:zdA e)(aG:cp! (x==cP!)): Y! (mK! (fq! p) e) (zu8 tb f):=by
 obtain⟨d,o,en,ep,hm,j9,hk,hx,hd,ks,h1,h2⟩:=hT;refine yp (zqq (r:=λv y H Q=>v=y! d/\∃k g,y=aD! k/\pu! (wg aV! X.w).is en (T! k)=b! (y! g)/\Q (y! g) H) ?_ (z7u hg hm (show wQ (y! d) (y! d) from rfl) aG) he hs) λO H Q ⟨Y,ρ,s,r,en',h⟩=>?_
 ·intro bi slice ae s O H v y u u2 Q I rx ry h bR;obtain⟨rfl,k,g,rfl,hf,q⟩:=h;cases rx;have mp:=zef I hk hx hd ks;exact _b3 mp.typeIs PySem.F.slot_dict_getitem.lookup (wpAny_getItem_of (zbd ry) mp hf ⟨rfl,y! g,H,iz!,rfl,q⟩) bR
 ·refine⟨Y,ρ,s,r,en',dl! h (λv H1 ⟨Y1,s1,dd,stp,dn,q⟩=>?_)⟩;split at q
  ·rename_i k;split at q
   ·rename_i y hy;obtain⟨g,e1,e2⟩:=h1 k y hy;cases z0P dn;exact⟨rfl,k,g,rfl,e1,om! q dO! (aH! g e2)⟩
   ·exact q.elim
  ·exact q.elim
noncomputable def zim(tb:bU! Str)(bY:Bool)(f:FE):FE:=e2! (eh! (match d with
 | .str k=>I! (.bl (xor bY (gq! mM!))) | _=>.no))
theorem zox(hT:zqp aV! X.w X.K fG! x tb)(hg:fj!)(he:fA! f)(m5:B! (behindInMarks .In (fq! p)=q!))(aG:cp! (x==cP!)): Y! (.Compare e [.In] [fq! p] pos) (zim tb q! f):=by
 obtain⟨d,o,en,ep,hm,j9,hk,hx,hd,ks,h1,h2⟩:=hT;refine yp (ziy (r:=λy v H Q=>v=y! d/\∃k,y=aD! k/\Q (.bl (gq! (pu! (wg aV! X.w).is en (T! k)))) H) ?_ he (z7u hg hm (show wQ (y! d) (y! d) from rfl) aG) m5) λO H Q ⟨Y,ρ,s,r,en',h⟩=>?_
 ·intro ae s O H y v u u2 Q I ry rx h;obtain⟨rfl,k,rfl,q⟩:=h;cases rx;exact wpAny_in_of (zbd ry) j9 (zef I hk hx hd ks) (br! (.bl _) H iz! q)
 ·refine⟨Y,ρ,s,r,en',dl! h (λv H1 ⟨Y1,s1,dd,stp,dn,q⟩=>?_)⟩;split at q
  ·rename_i k;cases z0P dn;exact fO! rfl k (om! q dO! (by change V.bl _=V.bl _;simp[(show gq! (pu! (wg aV! X.w).is en (T! k))=gq! mM! from by cases z:mM! with
    | none=>rw[h2 k z];rfl | some y=>obtain⟨g,e1,_⟩:=h1 k y z;rw[e1];rfl)]))
  ·exact q.elim
noncomputable def zet(i:Nat)(Ms:bU! Mir)(f:FA):FE:=e2! (match ρ[i]? with
 | some (some (.fn y))=>match rz! with
  | some M=>ks! (jI! (M xs s1)) | none=>.no
 | _=>.no)
theorem zow(i:Nat) {p:Pos} {Ms:bU! Mir} (F:∀y M,rz!=b! M->Has aV! X.w X.K fG! fm! CX y n M) (hr:z2G n X.A) (ig:ld! X E) (ha:RA X E (e::es) f) (hN:B! (ga! x)) (hv:sJ! x:=by first | exact bb! | exact Or.inr bb! | exact Or.inr bm!) (hd:cp! (x==cP!)) (bz:cp! (x==o! "__classdict__")) (he:B! (aw! (e::es)=d1!::iD!)) (au:eg! es (·.1)):Y! (dw! x p (e::es)) (zet i Ms f):=by
 intro ae s O H Q I ⟨Y,ρ,st,r,en,h⟩;unfold zet at h;split at h
 ·rename_i y hy;split at h
  ·rename_i M hM;obtain⟨v,m6,dv⟩:=en.at_ i (.fn y) hy;obtain⟨g,rfl,cU⟩:=dv;obtain⟨fa,fd,ps,Fk,hb,hk,hm⟩:=F y M hM;have e0:g=fa:=by cases cU.symm.trans hm;rfl
   subst e0;refine _ar (thn (zm5 hN hv hd bz ae s O H (λv H1=>v=y! g/\H1=H) I (fO! (y! g) m6 rfl)) λu s1 ⟨v,H1,I1,r1,e1,e2⟩=>?_);subst e1 e2;cases r1;exact _dL I1.ok.mod.kin hk (thn (ha pos ae s1 O H1 (λvs H2=>zjT M! M (vs++[]) H2 Q E) I1 (jd (k:=nu! (M xs s1)) r en h _ λvs H2 Y2 s2 ds r2 aY ax ag h3=>by
    rw[_aL];exact⟨Y2,s2,ds,r2,ax,h3⟩)) λus s2 ⟨vs,H2,I2,r2,q⟩=>as! I2.kIn (zfn Fk hr hb cD! ig I2 r2 q)) he au
  ·exact h.elim
 ·exact h.elim
@[simp] theorem zvm(tb:bU! Str)(f:FE)(ρ:Ev)(s:Sto):zu8 tb f ρ s=eh! (match d with
 | .str k=>match mM! with | some y=>I! (.fn y) | none=>.no
 | _=>.no):=V!
@[simp] theorem zsf(tb:bU! Str)(bY:Bool)(f:FE)(ρ:Ev)(s:Sto):zim tb bY f ρ s=eh! (match d with
 | .str k=>I! (.bl (xor bY (gq! mM!))) | _=>.no):=V!
@[simp] theorem zkI (i:Nat)(Ms:bU! Mir)(f:FA)(ρ:Ev)(s:Sto):zet i Ms f ρ s=match ρ[i]? with
 | some (some (.fn y))=>match rz! with
  | some M=>ks! (jI! (M xs s1)) | none=>.no
 | _=>.no:=V!
end
theorem uh.cut(stp:uh mg H Y H1 Y1 s1):uh mg H Y H1 r4! (qQ! qG!):=by
 have dk:DkS H1 Y1 H1 r4!:=λb hb ah e=>dD! (_T hb);refine⟨⟨by simp[stp.rep.len],stp.rep.nd.sublist (_c7 _ _),λj ys h=>?_,λys h=>stp.rep.flat ys (_T h),λb h z=>stp.rep.own b (dk.own h) (_T z),dk.uq dO!⟩,?_,stp.keep,λc h1 h2=>stp.new c (_T h1) h2,stp.mt,stp.dom,λb h=>stp.ow b (dk.own h)⟩
 ·have hj:j<qG!:=by
   have:=cV! h;simp at this;lia
  rw[_an hj]at h ⊢;obtain⟨c,q1,q2⟩:=stp.rep.cell j ys h;exact⟨c,q1,q2.flatten (λ_ _ h _ _ _=>h) (stp.rep.flat _ (_x h)) rfl (_x q1) stp.rep.own (λ_ _ _ q=>q)⟩
 ·obtain⟨t,ht⟩:=stp.pre;exact⟨[],by rw[<- ht];simp⟩
theorem uh.frzC(stp:uh mg H Y H1 Y1 s1) (hl:qG!<=l)(hx:G! s1 l xs)(e1:G! Y1 l a)(ka:IsL H1 a):∃vs,H1 a=b! bT!/\ ∀o,uh mg H Y (upd H1 a (ec! bT!)) r4! (qQ! qG!)/\rr! (upd H1 a (ec! bT!)) r4! bx! ag!:=by
 obtain⟨vs,e2,e3⟩:=stp.rep.at_ hx e1 ka;refine⟨vs,e2,λo=>?_⟩;have an:a∉Y:=λz=>by
  obtain⟨j,hj,ej⟩:=gr! z;obtain⟨t,ht⟩:=stp.pre;have:=(_a2 stp.rep.nd).mp (aJ! (oc! (by rw[<- ht,_H hj,_b hj,ej])).2 ((oc! e1).2).symm);lia
 have a0 := stp.new a (_x e1) an;have k:∀b u,H1 b=b! u->(∀vs,u≠bT!)->(∀ah,u≠.dT ah)->(∀ah,a4! ah->u≠hd!)->upd H1 a (ec! bT!) b=b! u:=λb u h hn _ _=>by rw[zM (λz=>by subst z;rw[e2]at h;exact hn vs (_p h).symm)];exact h
 have dk:DkS H1 Y1 (upd H1 a (ec! bT!)) r4!:=λb hb ah e=>by
  by_cases z:b=a;·subst z;rw[yA]at e;cases e
  ·rw[zM z]at e;exact dD! (_T hb)
 have mem:∀{j:Nat}{ys:List D},G! s1 j ys->dj! ys:=λe=>stp.rep.flat _ (_x e);refine as! ⟨⟨by simp[stp.rep.len],stp.rep.nd.sublist (_c7 _ _),λj ys h=>?_,λys h=>stp.rep.flat ys (_T h),λb h z=>stp.rep.own b (dk.own h) (_T z),dk.uq dO!⟩,?_,λb u h n g=>?_,λc h1 h2=>stp.new c (_T h1) h2,cv! ?_,λb h=>stp.dom b (zaw h),λb h=>stp.ow b (dk.own h)⟩ ?_
 ·have hj:j<qG!:=by
   have:=cV! h;simp at this;lia
  rw[_an hj]at h ⊢;obtain⟨c,q1,q2⟩:=stp.rep.cell j ys h;refine⟨c,q1,q2.flatten k (mem h) (zM λz=>?_) (_x q1) stp.rep.own (λb vs hb q=>by rw[zM (show b≠a from λz=>hb (z ▸ _x e1))];exact q)⟩;subst z;have:=(_a2 stp.rep.nd).mp (aJ! (oc! q1).2 ((oc! e1).2).symm);lia
 ·obtain⟨t,ht⟩:=stp.pre;exact⟨[],by rw[<- ht];simp⟩
 ·rw[zM (λz=>by subst z;rw[a0]at h;cases h)];exact stp.keep b u h n g
 ·have ne:b≠a:=λz=>an (z ▸ hb);rcases stp.mt b hb with⟨q1,q2⟩ | ⟨q1,q2,q3⟩;·exact C! ⟨q1,by rw[IsL,zM ne];exact q2⟩
  ·exact T! ⟨q1,by rw[IsC,zM ne];exact q2,λo u z=>by rw[zM ne];exact q3 o u z⟩
 ·exact⟨a,o,vs,rfl,yA,(λf h=>h.flatten k f) (mem hx) e3⟩
noncomputable def zqj(n:Nat):R D->R D
 | .ok (.loc l) s1=>match s1[l]? with
  | some xs=>ae! (n<=l) (.ok bx! (qQ! n)) | none=>.no
 | .ok _ _=>.no | .ex c s1=>.ex c s1 | .no=>.no
noncomputable def z5w(f:FE):FE:=e2! (zqj aW! ay!)
section
variable {X:Cx}{E:XK}{e:Expr}
theorem ziK(h:fA! f):fA! (z5w f):= yp (PE.freeze h) λO H Q ⟨Y,ρ,s,r,en,h⟩=>by
  refine⟨Y,ρ,s,r,en,?_⟩;unfold z5w zqj at h;split at h
  ·rename_i l s1 e1;rw[e1];split at h
   ·rename_i xs ex;split at h
    ·rename_i hl;intro v H1 Y1 stp dn;obtain⟨a,rfl,q1,ka⟩:=dn;obtain⟨vs,q2,q3⟩:=stp.frzC (by rw[r.len];exact hl) ex q1 ka;rw[<- r.len]at h;exact g6! a vs q2 (λo=>h _ _ _ (q3 o).1 (q3 o).2)
    ·exact h.elim
   ·exact h.elim
  ·exact h.elim
  ·rename_i e1;rw[e1];exact h
  ·exact h.elim
end
@[simp] theorem z3M(f:FE)(ρ:Ev)(s:Sto):z5w f ρ s=zqj aW! ay!:=V!
@[simp] theorem zaI: zqj aW! (gE! (s++[xs]))=k! bx!:=by simp[zqj]
noncomputable def zfu(n:Nat):R D->R D
 | .ok (.loc l) s1=>an! (l<n) (.ok db! (qQ! n)) (I! db!) | .ok d s1=>an! m0! (.ok d (qQ! n)) (I! d) | r=>r
noncomputable def z5K(M:Mir):Mir:=λds s=>zfu aW! (M ds s)
theorem znm(h:zjT mg (z5K M) vs H Q E):zjT mg M vs H Q E:=by
 obtain⟨Y,s,ds,r,dn,h⟩:=h;refine⟨Y,s,ds,r,dn,?_⟩;unfold z5K zfu at h;split at h
 ·rename_i l s1 e;rw[e];split at h
  ·rename_i hl;intro v H1 Y1 stp dv;rw[<- r.len]at h;refine h v H1 _ stp.cut ?_;obtain⟨a,rfl,e1,ka⟩:=dv;exact mS! a (by rw[_an (by rw[r.len];exact hl)];exact e1) ka
  ·exact h
 ·rename_i d s1 hn e;rw[e];split at h
  ·rename_i hf;intro v H1 Y1 stp dv;rw[<- r.len]at h;exact h v H1 _ stp.cut (dv.flatten (λ_ _ h _ _ _=>h) hf)
  ·exact h
 ·exact h
section
variable {P:Program}{w:World}{K:W.Frag}{mg:Str->aU!}{base:Heap}
theorem Has.tidy(h:Has P w K mg R! CX x n M):Has P w K mg R! CX x n (z5K M):=by
 obtain⟨f,fd,ps,F,r⟩:=h;exact⟨f,fd,ps,F.imp (qO! (znm h)),r⟩
end
@[simp] theorem z72(M:Mir)(ds:x!)(s:Sto):z5K M ds s=zfu aW! (M ds s):=V!
@[simp] theorem z1F(h:m0!):zfu n (I! d)=.ok d (qQ! n):=by cases d<;>first | exact nomatch (h:q!=d!) | simp[zfu,h]
def zs7:D->D->bi!
 | x,.int k,s=>match mm! x with
  | some xs=>ae! (w!*d4!<=cap/\-(2 ^ 62)<=k/\k<2 ^ 62) (bw! (hW! d4! xs)) | none=>.no
 | _,_,_=>.no
theorem yo.flat_rep(h:hE!):∀k:Nat,f7! H Y (hW! k xs) (hW! k vs)
 | 0=>by simpa using yo.nil | k+1=>by
  rw[_aR,_aR,_bw,_bw];exact h.append (h.flat_rep k)
section
variable {X:Cx}{E:XK}
theorem zuk:∃r,nO! r/\cZ! zs7:=by
 refine bQ! zlR.freeze ?_;intro H Y s d1 d2 v1 v2 Q r h1 h2 h;unfold zs7 at h;split at h
 ·rename_i k;cases yy h2;split at h
  ·rename_i xs hx;split at h
   ·rename_i hl;obtain⟨l,vs,e,q1,q2⟩:=yt r hx h1;exact⟨l,k,vs,e,rfl,q1,by lia,by lia,by rw[q2.length];exact z0D hl.1,z0N r h (q2.flat_rep _)⟩
   ·exact h.elim
  ·exact h.elim
 ·exact h.elim
end
section
variable {X:Cx}{E:XK}{e a b c:Expr}{es:aI!}{pos:Pos}{CX:CXT}
theorem znF(F:Has aV! X.w X.K fG! fm! CX x n M)(hr:z2G n X.A)(hx:ld! X E)(hg:fj!)(aG:cp! (x==cP!)):Y! (dw! x p []) (ze M zi):=by
 obtain⟨fa,fd,ps,F,hb,hk,hm⟩:=F;exact yp (zjw F hr hg hm hk hb cD! hx aG) λO H Q ⟨Y,ρ,s,r,en,h⟩=>⟨Y,s,[],r,yo.nil,h⟩
end
section
variable {P:Program}{w:World}{K:W.Frag}{mg:Str->aU!}{base:Heap}{CX:CXT}{n:Nat}
noncomputable def zjc:em! DictEntry->bU! d2!
 | []=>[] | e::es=>match e.key with
  | .str k _=>(k,e.val)::zjc es | _=>zjc es
theorem z44{P:Program} {w:World} : ∀{es:List DictEntry},pu! (wg P w).is es.toArray (T! k)=po! (zjc es) k
 | []=>by simp[findBy,zjc] | e::es=>by
  have ih:=z44 (P:=P) (w:=w) (k:=k) (es:=es);simp only[findBy,List.find?_toArray]at ih ⊢;rw[List.find?_cons];cases hk:e.key with
  | str y t=>
   simp only[zjc,hk,_Y];by_cases z:k=y
   ·subst z;simp[zdd]
   ·rw[(show (wg P w).is (T! k) (.str y t)=q! from by
     rw[z8J];cases q:zdD (T! k) (.str y t) with
     | false=>rfl | true=>
      rcases xh q with⟨i,u,h1,h2⟩ | ⟨x,u,h1,h2⟩;·cases h2
      ·cases h1;cases h2;exact fn! z),show (k==y)=q! from by simpa using z];exact ih | _=>
   simp only[zjc,hk,(show (wg P w).is (T! k) e.key=q! from by
    rw[z8J];cases q:zdD (T! k) e.key with
    | false=>rfl | true=>
     rcases xh q with⟨i,u,h1,h2⟩ | ⟨x,u,h1,h2⟩;·cases h1
     ·rw[hk]at h2;cases h2)];exact ih
theorem zeg:∀y M,ja! ([]:bU! Mir) y M->Has P w K mg R! CX y n M:=λy M h=>by simp at h
theorem kM(h:Has P w K mg R! CX x n M0)(hs:∀y M,rz!=b! M->Has P w K mg R! CX y n M):∀y M,ja! ((x,M0)::Ms) y M->Has P w K mg R! CX y n M:=λy M e=>by
 rw[_Y]at e;split at e
 ·rename_i hb;cases e;have:y=x:=by simpa using hb
  subst this;exact h
 ·exact hs y M e
end
def Sub(K:W.Frag)(h:Heap):g!:=∀p∈K,eK! p.1 p.2
theorem Sub.in_{K:W.Frag} (s:Sub K h):hC!:=λa o e=>by induction K with
 | nil=>simp at e | cons p K ih=>
  obtain⟨b,u⟩:=p;rw[_Y]at e;split at e
  ·rename_i hb;cases e;have:a=b:=by simpa using hb
   subst this;exact s (a,o) (by simp)
  ·exact ih (λq hq=>s q (by simp[hq])) e
theorem za4(h:Heap)(a:Addr):Sub (zdb h a) h:=bs! (by
 unfold zdb at hp;split at hp
 ·rename_i o e;simp at hp;subst hp;exact e
 ·simp at hp)
theorem Sub.app{K L:W.Frag} (a:Sub K h)(b:Sub L h):Sub (K++L) h:=bs! (m1! hp (a p) (b p))
theorem zn3(h:Heap)(ns:aq!):Sub (gat h ns) h:=by
 refine (za4 h _).app (bs! ?_);obtain⟨x,_,hx⟩:=List.mem_flatMap.mp hp;unfold zvz at hx;split at hx
 ·rcases nl! hx with hx | hx;·exact za4 h _ p hx
  ·split at hx
   ·split at hx;·exact za4 h _ p hx
    ·simp at hx
   ·exact za4 h _ p hx
   ·simp at hx
 ·simp at hx
def zvq(K:W.Frag)(x:Str)(st:Stmt):g!:=∃f fd,gx! K x=b! (b! ft!)/\Fun K x x st f fd
theorem dA(s:Stmt):dArgs s=kh s:=by cases s<;>rfl
theorem dB(s:Stmt):zqn s=xP s:=by cases s<;>rfl
theorem dS(s:Stmt):zlX s=zj s:=by cases s<;>rfl
theorem znV{K:W.Frag} {st:Stmt}(h:zkT K x=zs9 x st):zvq K x st:=by
 unfold zkT zs9 at h;split at h
 ·rename_i f hf;split at h
  ·rename_i oc od fd sl hl;simp only[_y,_br]at h;obtain⟨h1,h2,h3,h4,h5,h6,h7,h8,h9,k4,fZ⟩:=h;obtain⟨a1,a2,a3,a4,a5,a6,a7,a8,a9,a10,a11,a12,ii,ij,ik⟩:=fd;simp only at h1 h2 h3 h4 h5 h6 h7 h8 h9 k4;subst h1 h3 h4 h5 h6 h7 h8 h9;subst h2;exact⟨f,_,hf,zrh hl k4 fZ⟩
  ·cases h
 ·cases h
theorem zjJ{K:W.Frag} (h:znS K x=d!):gx! K x=b! a!:=by
 unfold znS at h;split at h;·rename_i e;exact e
 ·cases h
theorem zlf{K:W.Frag} (h:zp5 K x=h7!):∃t,gx! K x=b! (b! (ci! i)):=by
 unfold zp5 at h;split at h;·rename_i j t e;cases h;exact dD! t
 ·cases h
theorem zeh{K:W.Frag} (X:hC!)(G:oP! mg):∀{es:List DictEntry}{tb:List (Str×Str)},zfs K es (tb.map (·.2))=tb.map (λp=>(PyData.keyHash sm! p.1,b! p.1,d!))-> PySem.KeysOf (wg P w) es.toArray/\(∀k y,mM!=b! y->∃f,ja! (zjc es) k ft!/\fx! y ft!)/\∀k,mM!=a!->po! (zjc es) k=a!
 | [],[],_=>⟨λe he=>by simp at he,λk y h=>by simp at h,λk _=>by simp[zjc]⟩ | [],_::_,h=>by simp[zfs]at h | _::_,[],h=>by simp[zfs]at h | e::es,(k0,y0)::tb,h=>by
  simp only[_u,zfs,_cA,_br]at h;obtain⟨⟨h1,h2,h3⟩,h4⟩:=h;obtain⟨i1,i2,i3⟩:=zeh (P:=P) X G h4;obtain⟨hh,kk,vv⟩:=e;simp only at h1 h2 h3;cases kk with
  | str ks t=>
   simp only[ziP,_y]at h2;subst h2;obtain⟨f,rfl,e1⟩:=(show ∃f,vv=ft!/\gx! K y0=b! (b! ft!) from by
    unfold sameRef at h3;split at h3
    ·rename_i f g e1;have:f=g:=by simpa using h3
     subst this;exact aH! f e1
    ·cases h3);refine⟨λe he=>?_,λk y hy=>?_,λk hy=>?_⟩
   ·simp only[_dz,_C]at he;rcases he with rfl | he;·exact⟨T! ks,z7E ks t,h1⟩
    ·exact i1 e (by simpa using he)
   ·simp only[zjc,_Y]at hy ⊢;by_cases z:k=ks
    ·subst z;simp at hy ⊢;subst hy;exact W.mg_of X G e1
    ·rw[show (k==ks)=q! from by simpa using z]at hy ⊢;exact i2 k y hy
   ·simp only[zjc,_Y]at hy ⊢;by_cases z:k=ks;·subst z;simp at hy
    ·rw[show (k==ks)=q! from by simpa using z]at hy ⊢;exact i3 k hy | _=>simp[ziP]at h2
theorem znd{K:W.Frag} (X:hC!)(G:oP! mg)(e:zop K x (tb.map (·.2))=zsW w tb):zqp P w K mg x tb:=by
 unfold zop zsW at e;split at e
 ·rename_i a ha;split at e
  ·rename_i c d es ep sl hl;simp only[_y,_br]at e;obtain⟨e1,e2,e3,e4,e5⟩:=e;obtain⟨i1,i2,i3⟩:=zeh X G e5;have hs:sl=#[]:=Array.eq_empty_of_size_eq_zero (by simpa using e3);refine⟨a,_,es,ep,W.mg_of X G ha,e4,hl,a3! (by
    unfold zbN at e1;split at e1
    ·rename_i n;have:n=nP!:=by simpa using e1
     rw[this]
    ·cases e1) (by simpa using e2) hs,rfl,i1,λk y hy=>?_,λk hy=>?_⟩;·rw[z44];exact i2 k y hy
   ·rw[z44];exact i3 k hy
  ·cases e
 ·cases e
def saysS(q:Ask)(w:World)(h:Heap):g!:=∃K:W.Frag,hC!/\zeA q K=jt! q
theorem zmX(q:Ask)(w:World)(s:Shared)(e:obsS q s=jt! q):saysS q w L!:=bQ! (zn3 _ _).in_ e
theorem zfX(q:Ask)(w:World)(h h':Heap)(x:saysS q w h)(k:bJ! (cK! b->dK! b)):saysS q w h':=let ⟨K,a,b⟩:=x;⟨K,a.keeps k,b⟩
theorem z9v{α β:bD!}{f g:α->β}:∀{l:List α},m4!=kA!->∀x∈l,f x=g x:=λh x hx=>List.map_inj_left.mp h x hx
theorem zuL{K:W.Frag}(e:zeA q K=jt! q)(x:Str)(st:Stmt)(hx:(x,st)∈q.fs):zvq K x st:=znV (z9v (_au sr! e) (x,st) hx)
theorem zti{K:W.Frag}(e:zeA q K=jt! q)(x:Str)(hx:x∈q.bs):gx! K x=b! a!:=zjJ (z9v (_au (λz=>z.2.1) e) x hx)
theorem zuY{K:W.Frag}(e:zeA q K=jt! q)(x:Str)(i:Int)(hx:(x,i)∈q.cs):∃t,gx! K x=b! (b! (ci! i)):=zlf (z9v (_au (λz=>z.2.2.1) e) (x,i) hx)
theorem zsN{K:W.Frag} (X:hC!)(G:oP! mg)(e:zeA q K=jt! q)(x:Str)(tb:bU! Str)(hx:(x,tb)∈q.ts):zqp P w K mg x tb:=znd X G (z9v (_au (λz=>z.2.2.2.1) e) (x,tb) hx)
theorem ziu{Ya:World->α} (row:String) (bo:∀w:World,j7! (W.fencedOpening n6! p w N) (L!,s.gens,s.drawn,fZ!)=b! (kn!,jU!,qg!,qh!)) (hf:oK! (j7! (W.topFrom n6! p (sH! q!) N (fc! kn! jU! qg! qh!)) (W.openSeen q ok! st! Xt g0 s,Yf s)) (W.openGood q ok!,Ya (sH! q!))) (ht:oK! (j7! (W.topFrom n6! p (sH! d!) N (fc! kn! jU! qg! qh!)) (W.openSeen q ok! st! Xt g0 s,Yf s)) (W.openGood q ok!,Ya (sH! d!))):W.LeftO p q ok! Xt Yf Ya N g0:= W.LeftO.of_split row λw=>by
  obtain⟨⟨h,gs,d,k,os⟩,e,e'⟩:=qM! (bo w);obtain⟨rfl,rfl,rfl,rfl⟩:h=kn!/\gs=jU!/\d=qg!/\k=qh!:=by simpa only [_br] using e'
  rw[e,_ai,hf w os,ht w os]
theorem zbM: ∀{n:Nat}{s s':W.SharedT}{t:Thread},z7I tb p w n₀ dw n s t=b! s'->W.topRun tb p w n₀ dw n iI! t=b! s'.abs
 | 0,_,_,_,h=>by cases h | n+1,s,s',t,h=>by
  unfold z7I at h;unfold W.topRun;cases he:W.through t with
  | true=>rw[he]at h;cases h;rfl | false=>
   rw[he]at h;cases hk:W.stepOk n₀ dw t with
   | false=>rw[hk]at h;cases h | true=>
    rw[hk]at h;cases hs:W.stepT (denote tb) p w s t with
    | none=>rw[hs]at h;cases h | some r=>rw[hs]at h;rw[W.stepT_spec hs];exact zbM h
theorem z8L{os:OsState} (ha:W.absHeap t0 m₀ h.life=h) (sz:(h.isNs mp!&&(jU!:r7!).size==0,jA!,h.nsMap mp! "__annotations__")=(d!,m₀,dw)){α:bD!}{f:n5!->α}{v:α} (hr:(z7I n6! p w m₀ dw N ⟨t0,m₀,h.life,jU!,d,k,os⟩ (W.topStub p)).map (λsT=>(W.staticsOk st! h qR!&&W.namesBound p qR!&&W.gensDone sT.abs&&W.laidKept h qR!,f sT.abs))=b! (d!,v)): (W.topFrom n6! p w N (fc! h jU! d k)).map f=bV!:=by
 obtain⟨sT,e1,e2⟩:=qM! hr;obtain⟨e3,e4⟩:=Prod.mk.inj e2;obtain⟨z1,z2,z3⟩:_/\_/\_:=by simpa only [_br] using sz
 have r:=zbM e1;rw[(show (⟨t0,m₀,h.life,jU!,d,k,os⟩:qe!).abs=fc! h jU! d k from by
  show (fc! (W.absHeap t0 m₀ h.life) jU! d k:n5!)=_;rw[ha])]at r;have t:W.topFrom n6! p w N (fc! h jU! d k)=b! sT.abs:=by
  unfold W.topFrom;rw[z1,z2,z3,r];show (match (W.staticsOk st! h qR!&&W.namesBound p qR!&&W.gensDone sT.abs&&W.laidKept h qR!) with | true=>b! sT.abs | false=>none)=_;rw[e3]
 rw[t,_ai,e4]
theorem zcL{α β γ δ:bD!}{r:bq! α}{f:α->β}{g:α->γ}{k:α->δ}{x:β}{y:γ}{z:δ}(h1:nq! (λs=>(f s,k s))=b! (x,z))(h2:nq! g=b! y):nq! (λs=>(f s,(g s,k s)))=b! (x,(y,z)):=by
 obtain⟨s,e1,e2⟩:=qM! h1;obtain⟨s',e3,e4⟩:=qM! h2;rw[e1]at e3;cases e3;obtain⟨e5,e6⟩:=Prod.mk.inj e2;rw[e1,_ai,e4,e5,e6]
theorem walkY{l:W.OpenLaw} (hn:l.most=b! n)(eY:n<=aY!)(hR:n<=63)(gO:d.params.defaults=[])(hr:z2G k qE!) (F:∀(w:World)(mg:Str->Option Value)(fa:Addr)(h:Heap),YP w h->oP! mg->fx! d.name (y! fa)->XP mg h-> ∃K:W.Frag,hC!/\∃fd:FuncData,(∀(s:Shared)(u:Value),qx! s fd (dT! [u]) [(x,u)])/\ ∀base:Heap,K.In R!->sB! mg->za7 l.prog w K mg R! CX0 k fa fd [x] (zoh K)): W.WalkO q ok! XP YP l.row.toRowW d [] (λf vs=>PySem.call f vs):=by
 refine Att.zdl hn gO λw s₀ s₁ mg mb fa o pm cd aE a vs ns G Yy ho hd bz cU dE cF ap hg=>?_;obtain⟨K,KX,fd,hb,hF⟩:=F w mg fa _ Yy G.T.g cU G.X;exact zkD KX G.T.g G.T.b G.T.builtins G.T.nolimit hg dE cF (_G ap eY) hr hF hb (λH hO hS=>⟨a,ns,rfl,hO,hS,_G ap hR,bk! rfl⟩) λH e s' z=>z
end Dd
namespace HT
section
variable {prog:Program}{w:World}{A:Around}{s:Shared}{E:b1!}
theorem zfM(n:Nat):Builtin.Slice.sliceAdjust a! a! (-1) (j! n)=(j! n-1,-1):=by
 unfold Builtin.Slice.sliceAdjust;rfl
theorem zg0(n:Nat):qA! (j! n-1) (-1) (-1)=n:=by
 unfold Builtin.Slice.slicePlaces;rw[_o (by decide)];by_cases h:n=0;·subst h;rfl
 ·rw[_g (by omega)];simp
theorem z5L{sl:Addr} {t:Tok} {n:Nat} {Q:Int×Int×Nat->eL!} (hs:r6! ab! ab! (ci! (-1))) (h:Q (j! n-1,-1,n) s):cG! w A (Builtin.Slice.sliceApplied (y! sl) (d3! (j! n))) Q E s:=by
 obtain⟨os,bX,cS,cO⟩:=id hs;unfold Builtin.Slice.sliceApplied Builtin.Slice.sliceFields;refine _a (_a (_X bX cO (x:=ab!) rfl (_a (_X bX cO (x:=ab!) rfl (_a (_X bX cO (x:=ci! (-1)) rfl (_m ?_)))))));refine _a (slicePart_int ?_);show fR! _ _ (aF! (j! (-1)==0) _ _) _ _;rw[_o (by decide)];refine _a (_cR (_a (_cR (_a (_m ?_)))));show fR! _ _ (match Builtin.Slice.sliceAdjust a! a! (-1) (j! n) with | (lo,hi)=>d3! (lo,j! (-1),qA! lo hi (-1))) _ _;rw[zfM n];show fR! _ _ (d3! (j! n-1,j! (-1),qA! (j! n-1) (-1) (-1))) _ _;rw[zg0];exact _m h
theorem zjz(xs:cF!):no! (r5! qS! (λ(m:Nat)=>xs[(j! qS!-1+j! m*(-1)).toNat]?))=xs.toList.reverse.toArray:=by
 congr 1;have key:∀(k:Nat),k<=qS!->r5! k (λ(m:Nat)=>xs[(j! qS!-1+j! m*(-1)).toNat]?)=xs.toList.reverse.take k:=by
  intro k;induction k with
  | zero=>simp | succ k ih=>
   intro hk;rw[List.range_succ,List.filterMap_append,ih (by omega)];have h1:fI! (j! qS!-1+j! k*(-1))=qS!-1-k:=by omega
   rw[_bL,h1,Array.getElem?_eq_getElem (by omega)];have hl:k<xs.toList.reverse.length:=by simp;omega
   rw[List.take_succ,_b hl];simp
 rw[key _ am!,List.take_of_length_le (by simp)]
theorem z3V{t sl:Addr} {items:cF!} {tk:Tok} {Q:b1!} (ht:IsTup L! t hm!) (hs:r6! ab! ab! (bE! (-1) tk)) (h:Q f4! {s with heap:=ij! ({cls:=dR!,data:=.seq items.toList.reverse.toArray})}) (bf:hR!<=aY!):cG! w A (getItem (y! t) (y! sl)) Q E s:=by
 have bU:sizeOk (.seq items.toList.reverse.toArray):=by
  show items.toList.reverse.toArray.size<=aY!;simpa using bf
 obtain⟨os,bX,cS,cO⟩:=id hs;have m7:pp! (y! sl) "slice":=a3! os bX cS;unfold getItem;try with_reducible refine _aT ?_
 first | refine _a (_m ?_) | skip
 refine _a (_c8 lL! (by decide) ?_);refine _a (_ah (name:=Str.ofString "__getitem__") ht.typeIs _R (_ax _R lL! _cC ?_ (_cS _ _)));show fR! _ _ (Builtin.Tuple.tupleItemsOf (y! t) >>= _) _ _;refine _a (tupleItemsOf_ ht ?_);refine _a (_dM m7 ?_);rw[_g (by decide)];refine _a (z5L (n:=items.size) hs ?_);have gn:¬ ((j! hR!-1==0&&j! (-1)==1&&hR!==hR!)=d!):=by simp
 show fR! _ _ (aF! (j! hR!-1==0&&j! (-1)==1&&hR!==hR!) _ _) _ _;rw[_o gn,zjz];first
  | exact _a (m:=sw!) (_aI (_m (aH! _ (_m h))) bU) | exact _a (m:=sw!) (_aI (_a (_m (_m (aH! _ (_m h))))) bU) | exact _a (_a (m:=sw!) (_aI (_m (_m (aH! _ (_m h)))) bU)) | exact _a (_a (m:=sw!) (_aI (_m (aH! _ (_m h))) bU))
end
end HT
namespace L2
section
variable {X:Cx}{e m:Expr}{te:TE}{pos p2:Pos}
def zsM(K:W.Frag)(te:TE):TE:=gS! (te O H (hO! (∃a xs,x=ag!/\SqT K H1 a xs/\∀p,H1 p=a!->Q cg! (upd H1 p (n! xs.reverse)))))
theorem zoP(he:W! e te) (hm:∀(ae:List (Addr×Obj)) (s:Shared) (O:St) (H:Hp),N!->bR! (evalPart (b! m) az!) (λu s'=>∃t,u=ci! (-1)/\l4! s') s): W! (mK! e (.Slice a! a! (b! m) p2)) (zsM X.K te):=by
 intro ae s O H Q I h;refine Subscript_ (thn (he ae s O H _ I h) λv s1 ⟨x,H1,I1,r1,q1⟩=>?_);refine wpAny_Slice ?_;rw[evalPart_none];refine _m (_m ?_);refine thn (hm ae s1 O H1 I1) λu s3 ⟨t,eu,I3⟩=>?_;subst eu;have I4:cQ! H1 ({s3 with heap:=s3.heap.push {cls:=ar! "slice",data:=eY! #[ab!,ab!,ci! (-1)]}}):=I3.kept (t':=s3.toks) λb ob q=>_i _ q;obtain⟨a,xs,rfl,hx,q⟩:=q1;cases r1;obtain⟨af,r,ht,hz⟩:=I4.tuple hx;show bR! (subscriptTail e (.Slice a! a! (b! m) p2) ag! (y! s3.heap.objs.size)) (EP X ae O Q) ({s3 with heap:=s3.heap.push {cls:=ar! "slice",data:=eY! #[ab!,ab!,ci! (-1)]}});refine tail_any (ops:=[ag!,y! s3.heap.objs.size]) ht.typeIs _R.lookup ?_ (by with_unfolding_all rfl);have ap:iS!=w!:=by rw[_t];exact r.length.symm
 refine HT.z3V ht (Heap.IsSliceOf.new ..) ?_ (by rw[ap];exact hz);refine⟨y! _,_,I4.laid (t':=s3.toks) (o:=n! xs.reverse) (λb ob q=>_i _ q) am! ?_,rfl,q _ (I4.hok.fresh am!)⟩;have hr:xt xs.reverse af.reverse:=by
  clear hx hz ht q I4 ap;induction r with
  | nil=>exact cD! | cons p _ ih=>rw[_b7,_b7];exact ih.append (eX! p cD!)
 refine⟨by simpa using hz,af.reverse,hr,?_⟩;have e:af.toArray.toList.reverse.toArray=af.reverse.toArray:=by rfl
 rw[e];exact zgm.new _ _
end
end L2
namespace Dd
open L2
section
variable {X:Cx}{E:XK}{e:Expr}{pos p2 p3 p4:Pos}
theorem yo.rev{mg:Gm}{H:Hp}{Y:ao!}:∀{xs:List D}{vs:List V},hE!->f7! H Y xs.reverse vs.reverse
 | [],vs,h=>by obtain rfl:=h;exact yo.nil | d::ds,vs,h=>by
  obtain⟨v,r,rfl,h1,h2⟩:=h;rw[_b7,_b7];exact (yo.rev h2).append (.one h1)
noncomputable def zrb(f:FE):FE:=e2! (eh! (match d with
 | .tup xs=>I! (n! xs.reverse) | _=>.no))
theorem zvf{j:Nat} {f:FE} (he:fA! f):Y! (mK! e (.Slice a! a! (b! (.UnaryOp .USub (mf! (c! 1) p3) p4)) p2)) (zrb f):= yp (zoP he λae s O H I=>by
  rw[evalPart_some];refine thn ((zrm (pos:=p4) zlZ (zmN (i:=1) (j:=j) (pos:=p3))) ae s O H (λv H1=>v=c! (-1)/\H1=H) I ?_) λu s1 ⟨x,H1,I1,r1,e1,e2⟩=>?_;·exact fO! 1 rfl rfl
  ·subst e1 e2;obtain⟨t,rfl⟩:=r1;exact aH! t I1) λO H Q ⟨Y,ρ,s,r,en,h⟩=>by
  unfold zrb at h;refine⟨Y,ρ,s,r,en,(okR.bind (Dn:=ll!) h).imp λv H1 ⟨Y1,s1,d,stp,dn,h1⟩=>?_⟩;cases d with
  | tup xs=>
   obtain⟨a,vs,rfl,q1,q2⟩:=kP (K:=X.K) dn;exact g6! a vs q1 (z4T dO! h1 q2.rev) | _=>exact h1.elim
end
section
variable {X:Cx}{E:XK}{e:Expr}{pos:Pos}
noncomputable def zpb(i j k:Nat):FG:=λd ρ s=>match d with
 | .tup [x,y,z]=>k! (g8! (g8! (h3! fd!) j y) k z) | _=>.no
theorem zqD(i j k:Nat){x y z:Str}{px py pz:Pos}{kt:Nat}(hc:b0!)(hN:X.N.Nodup)(hi:B! (ga! x))(hj:B! (G! X.N j y))(hk:B! (G! X.N k z))(hx:kq! (gZ! x))(hy:kq! (gZ! y))(hz:kq! (gZ! z)) (hf:g0! (f8! x\/e7! x))(e9:g0! (f8! y\/e7! y))(dc:g0! (f8! z\/e7! z)): RG X E (jc! [fq! px,gj!,.Name z pz] pos) (zpb i j k):= zgu (ziv hc (z0t (zK hN hi hx hf) (z0t (zK hN hj hy e9) (z0t (zK hN hk hz dc) zdN)))) λv O H Q ⟨Y,ρ,s,d,r,en,dn,h⟩=>by
  unfold zpb at h;split at h
  ·rename_i d1 d2 d3;obtain⟨p,vs,rfl,q1,q2⟩:=kP (K:=X.K) dn;obtain⟨v1,v2,v3,rfl,e1,e2,e3⟩:=zup q2;exact⟨p,[v1,v2,v3],rfl,q1,rfl,v1,[v2,v3],rfl,v2,[v3],rfl,v3,[],rfl,rfl,g5! h (((en.set e1 i).set e2 j).set e3 k)⟩
  ·exact h.elim
@[simp] theorem zvC(i j k:Nat)(x y z:D)(ρ:Ev)(s:Sto):zpb i j k (n! [x,y,z]) ρ s=k! (g8! (g8! (h3! fd!) j y) k z):=V!
end
section
variable {X:Cx}{E:XK}{e o a b c:Expr}{es:aI!}{pos:Pos}
def zfr:D->D->bi!
 | x,.int k,s=>match mm! x with
  | some xs=>ae! (w!*d4!<=cap/\-(2 ^ 62)<=k/\k<2 ^ 62/\dj! (hW! d4! xs)) (gE! (s++[hW! d4! xs])) | none=>.no
 | _,_,_=>.no
theorem zpU:∃r,nO! r/\cZ! zfr:=by
 refine bQ! zlR ?_;intro H Y s d1 d2 v1 v2 Q r h1 h2 h;unfold zfr at h;split at h
 ·rename_i k;cases yy h2;split at h
  ·rename_i xs hx;split at h
   ·rename_i hl;obtain⟨l,vs,e,q1,q2⟩:=yt r hx h1;exact⟨l,k,vs,e,rfl,q1,by omega,by omega,by rw[q2.length];exact z0D hl.1,zgA r h hl.2.2.2 (q2.flat_rep _)⟩
   ·exact h.elim
  ·exact h.elim
 ·exact h.elim
end
structure Fly(P:Program)(w:World)(outer:mV!)(H:Hp)(s:Shared)(C ea:Addr)(H':Hp)(s':Shared):g! where
 os:qp!=s.os
 bare:rv!
 un:Un mR! [] H H' L! gR!
 hok:HOk P w H' gR!
 fly:∃B a0,rK! B au! ap! a0 gR!/\bJ! (sG!=b! o->(H' b≠a!\/((∃o',f3! b o')/\b∉mR!))->B.get? b=b! o)
def CX1(P:Program)(w:World):CXT:=λouter H s E e s'=>∃C ea H',e=y! ea/\Fly P w au! H s C ea H' s'/\E ap! a! H'
theorem HOk.cov{h h' B:Heap}(x:HOk P w H h)(c:bJ! (cK! b->H b≠a!->B.get? b=b! o))(k:B.StaysIn h'):HOk P w H h':=λa o e=> (x a o e).stay (λb u hb q=>by
  refine k b u (c b u q ?_);rcases hb with rfl | hb;·rw[e];simp
  ·rw[hb];simp) (λ_ q=>q) λ_ _ q=>q
theorem zko(x:kC P w H h a o):∃ob,eK! a ob:=by cases o with
 | lst xs=>obtain⟨_,_,_,_,e⟩:=x;exact dD! _ | tup xs=>obtain⟨_,_,_,ob,e,_⟩:=x;exact dD! _ | dK ah=>obtain⟨_,_,_,_,o,_,_,e,_⟩:=x;exact dD! _ | dT ah=>obtain⟨_,_,_,_,o,_,_,e,_⟩:=x;exact dD! _ | set S n=>obtain⟨o,_,_,_,e,_⟩:=x;exact dD! _ | ins C dx fs=>obtain⟨_,_,_,e,_⟩:=x;exact dD! _ | own y=>exact x | xd fs=>obtain⟨_,⟨_,_,_,e,_⟩,_⟩:=x;exact dD! _ | rng lo hi=>obtain⟨_,_,_,e⟩:=x;exact dD! _ | frz ob u=>obtain⟨e,_⟩:=x;exact dD! _ | tbl ps=>exact f9! x | met f y=>exact f9! x | ext φ=>obtain⟨_,e,_⟩:=x;exact e
section
variable {X:Cx}{E:XK}{ae:dp!}{O:L2.St}{H:Hp}{s:Shared}
theorem Inv.left(I:N!)(cb:lD!=[])(ho:kQ!=au!)(fl:rK! B au! ap! a0 h')(sm:s.heap.UpToSlots h') (c:bJ! (dx! b->(H b≠a!\/((∃o',rY!=b! o')/\b∉mR!))->B.get? b=b! o)) (hg:rP! g): Fly aV! X.w au! X.H₀ X.s₀ C ea H ⟨h',g,d,t,s.os⟩:=by
 subst ho;have k:=fl.1;refine⟨ka!,hg,⟨λb o e n nf ne=>(k b o (c b o (qk! b o e n nf (by rw[cb];exact ne)) (ew! (dD! o) nf))),λb o e n hf ne=>?_,λb o e n ne=>(ql! b o e n (by rw[cb];exact ne)),λb o e ne=>?_,I.base.tups,I.base.frzs,I.base.tbls⟩,HOk.cov eZ! (λb o e n=>c b o e (C! n)) k,B,a0,fl,λb o e q=>?_⟩
 ·obtain⟨sl,e1⟩:=qm! b o e n hf (by rw[cb];exact ne);obtain⟨_,o2,e2,cW⟩:=I.funs.mem hf;rw[e1]at e2;cases e2;obtain⟨cE,e3⟩:=sm b _ e1 cW;exact as! cE e3
 ·by_cases hf:b∈frs kQ!
  ·obtain⟨_,o2,e2,cW⟩:=I.funs.mem hf;obtain⟨cE,e3⟩:=sm b _ e2 cW;exact f9! e3
  ·obtain⟨o1,e1⟩:=oW! o e (by rw[cb];exact ne);exact⟨o1,k b o1 (c b o1 e1 (ew! (dD! o) hf))⟩
 ·have back:∀o1,f3! b o1->B.get? b=b! o:=λo1 e1=>by
   have e2:=c b o1 e1 (q.imp id λz=>z);have:dK! b:=e;rw[(k b o1 e2)]at this;cases this;exact e2
  rcases q with q | ⟨⟨o',e'⟩,nf⟩;·cases z:H b with
   | none=>exact pd! q | some u=>
    obtain⟨o1,e1⟩:∃o1,f3! b o1:=zko (n9! b u z);exact back o1 e1
  ·obtain⟨o1,e1⟩:=oW! o' e' (by rw[cb];simp);exact back o1 e1
end
section
variable {P:Program}{w:World}{K:W.Frag}{mg:Str->aU!}{base:Heap}{N:aq!}{qual:Str}{scope:Scope}{f:Addr}{cd:Value}{A:Around}{outer:mV!}{s:Shared}{H:Hp}{E:XK}
theorem z4x:(pX! av! bF! f cd).frame=b! at!:=rfl
theorem z1M:Passes dJ! (z5B dJ! P w K mg R! N av! bF! f cd A au! s H E) E:=by
 intro ae O H1 s1 e s' I h;obtain⟨C,ea,H',he,fl,hE⟩:=h;subst he;obtain⟨h2,g2,d2,t2,m8⟩:=s';have na:m8=s1.os:=fl.os;subst na;have I':=I.call (h':=h2) (g':=g2) (d':=d2) (t':=t2) (ch:=[]) fl.un fl.hok fl.bare (λb z=>pd! (by simp));obtain⟨B,a0,fw,cov⟩:=fl.fly;refine wpAny_leaves_onW (base:=B) (outer:=outer) I.ok.frames z4x fw λh' nc sm=>⟨C,ea,H',rfl,Inv.left I' rfl rfl nc sm (λb o e q=>cov b o e (q.imp id λz=>?_)) I'.bare,hE⟩;obtain⟨⟨o',e'⟩,nf⟩:=z;obtain⟨o1,e1⟩:=oW! o' e' (by show b∉([]);simp);refine⟨as! o1 e1,λz=>?_⟩;rcases ep! z with z | z
 ·have:=_s e';rw[z]at this;exact k9! iV! _
 ·exact nf z
theorem zqO{O:L2.St} (I:Inv (z5B dJ! P w K mg R! N av! bF! f cd A au! s H E) ae O H1 s1) (hx:Heap.MadeExcOf qt! h' e ap! kb!) (hE:E ap! a! H1): (z5B dJ! P w K mg R! N av! bF! f cd A au! s H E).xe ez! {s1 with heap:=h'}:=by
 refine wpAny_leaves_madeW (base:=W.hideAll qt! (frs (pX! av! bF! f cd::au!))) (h:=s1.heap) (outer:=outer) I.ok.frames z4x (λb o q=>W.of_hideAll _ q) (W.funFrames_hide I.stack (λenv he b hb=>_cO.mpr ⟨env,he,hb⟩)) hx λpS t fw tup bt sm=>⟨C,e,H1,rfl,Inv.left I rfl rfl fw (aJ! (Heap.UpToSlots.of_keeps hx.keeps) sm) (λb o eb q=>W.hideAll_get _ eb λz=>?_) jD!,hE⟩;rcases q with q | ⟨⟨o',e'⟩,nf⟩;·exact q (I.stkFree b z)
 ·rcases ep! z with z | z
  ·have:=_s e';rw[z]at this;exact k9! iV! _
  ·exact nf z
end
def zh6(X:Cx) (E:XK):g!:=∀(ae:List (Addr×Obj)) (O:L2.St) (H1:Hp) (s1:Shared) (h':Heap) (e C:Addr) (args:List Value),cQ! H1 s1->Heap.MadeExcOf qt! h' e ap! kb!->E ap! a! H1->X.xe ez! {s1 with heap:=h'}
def zpa(K:W.Frag)(mg:Str->aU!)(x:Str):g!:=∃C,fx! x ap!/\rq! K C bmV=d!
inductive ExO(h:Heap)(C:Addr)(P:bZ!->lx!->String->g!):g! | mk {bm N nm q bs hdct sn sub ab col dd k0 k1 k2 k3 k5 i}(hC:eK! C (excClassObj nm q C N bs bm hdct sn sub ab col dd k0 k1 k2 k3 k5 i))(hp:P bm N i):ExO h C P
theorem ziQ{K:W.Frag} (X:K.In h₀)(q:W.excIn K C bmB cL=d!):ExO h₀ C λbm N i=>i=cL/\∃mN,h₀.Ns N mN/\mN "__init__"=a!/\OwnTail h₀ bmB bm:=by
 unfold W.excIn at q;split at q
 ·rename_i dd cd sl ho;split at q
  ·rename_i C' bm k0 k1 k2 k3 n k5 hm hs;simp only[_S,_aC,Bool.not_eq_true']at q;obtain⟨⟨⟨⟨⟨rfl,rfl⟩,il⟩,ht⟩,hok⟩,im⟩:=q;obtain⟨nm,bs,mro,ns,qn,hd,sn,sub,ab,col,pT⟩:=cd;subst hm il;have ng:sl=#[k0,k1,k2,k3,h4! n,k5]:=by
    obtain⟨l⟩:=sl;simp only at hs;rw[hs]
   subst ng;exact⟨X _ _ ho,rfl,_,.of_isNs (W.isNs_of_in X hok),W.nsMap_none_of_in X hok im,W.tail_of_in X ht⟩
  ·cases q
 ·cases q
section
variable {X:Cx}{E:XK}{pos:Pos}
noncomputable def z9f(c:Str):FS:=λ_ s=>dW!
theorem z9D(hk:zpa X.K fG! x) (nh:zh6 X E) (hc:b0!) (hg:fj!) (hd:cp! (x==cP!)): RS X E (.Raise (b! (fJ! (fq! np) [g1! m j p] [] ak)) a! pos) (z9f x):=by
 intro ae s O H D I h;obtain⟨Y,ρ,st,r,en,h⟩:=h;obtain⟨C,hm,hq⟩:=hk;have hE:E ap! a! H:=h H Y C (uh.refl r) hm;obtain @⟨tl,Nn,nm,q,bs,hdct,sn,sub,ab,col,dd,k0,k1,k2,k3,k5,_,hC,rfl,mN,hN,im,T⟩:=ziQ I.mod.kin hq;refine wpAny_Raise_call_subT (C:=C) (nm:=nm) (q:=q) (N:=Nn) (bs:=bs) (bm:=tl) (hdct:=hdct) (sn:=sn) (sub:=sub) (ab:=ab) (col:=col) (dd:=dd) (k0:=k0) (k1:=k1) (k2:=k2) (k3:=k3) (k5:=k5) _bB (mN:=mN) (T.hasType _bB.hasBase) ht! rfl im (z4v I hg hm (g4! (_bz (thn (wV (X:=X) (zmb (X:=X)) (z1e (X:=X)) rfl ak ae s O H (λvs H1=>vs=[aD! m]/\H1=H) I (cl! rfl)) λus s2 h2=>?_))) hd);obtain⟨vs,H1,I1,r1,e1,e2⟩:=h2;subst e1 e2;obtain⟨u,rfl,ru⟩:=r1.one;exact⟨rfl,by show 1<=aY!;decide,I1.bk _ _ hC,hN.keeps I1.bk,T.keeps I1.bk,λh' e mk=>nh ae O _ s2 h' e C [u] I1 mk hE⟩
end
noncomputable def kU(N:aq!)(n:Nat)(fs:FS):Mir:=λds s=>ae! (qI!=n) (match fs (zv N ds) s with
 | .ok (.rt d) s'=>bz! d | .ok (.nx _) s'=>bz! aA! | .ex c s'=>.ex c s' | _=>.no)
section
variable {P:Program}{w:World}{K:W.Frag}{mg:Str->aU!}{base:Heap}
theorem zbH: Passes CX0 X E:=λ_ _ _ _ _ _ _ h=>h.elim
theorem zno{st:Stmt} (F:Fun K x av! st f fd)(hm:fx! x ft!)(hb:kF! K ps [])(S:S! N ps st)(hn:a5!=n) (body:ss! (z2G k (kx! av! dc! f aj)) ((z5B dJ! P w K mg R! N av! dc! f aj A au! s H E).calm=d!-> RSs (z5B dJ! P w K mg R! N av! dc! f aj A au! s H E) E ic! fs)):Has P w K mg R! dJ! x (k+1) (kU N n fs):=by
 subst hn;obtain⟨oc,od,kV,aE,pm,an,aj,ct,cC,rfl,lk,bz⟩:=F.ex;refine⟨f,_,ps,zpu lk bz S (qO! ?_) (λA outer s H vs Q E hr h=>?_),hb,F.kp,hm⟩
 ·obtain⟨Y,s,ds,_,dn,h⟩:=h;unfold kU at h;split at h;·rename_i e;rw[dn.length];exact e
  ·exact h.elim
 ·obtain⟨Y,cn,ds,r,dn,h⟩:=h;refine⟨_,body aj A au! s H E hr (by show A.handled.isNone=d!;rw[show nH! from hr.hd];rfl),Y,zv N ds,cn,r,z1I dn,?_⟩;unfold kU at h;split at h
  ·split at h
   ·rename_i d s' e;rw[e];intro fv H' Y' stp fd;cases fv with
    | rt v=>exact h v H' Y' stp fd | _=>exact b7! fd
   ·rename_i ρ s' e;rw[e];intro fv H' Y' stp fd;cases fv with
    | nx v=>exact h aA! H' Y' stp (by rfl) | _=>exact b7! fd
   ·rename_i c s' e;rw[e];exact h
   ·exact h.elim
  ·exact h.elim
noncomputable def zx4(M:Mir):Mir:=λds s=>match M ds s with | .ex _ _=>.no | r=>r
end
noncomputable def ki(f:FS):FS:=e2! (match ay! with | .ex _ _=>.no | r=>r)
theorem jg{st:Stmt} (h:RS X.nox E0 st f):RS X E st (ki f):=λae s O H D I hw=>by
 obtain⟨Y,ρ,cn,r,en,q⟩:=hw;exact le! (h ae s O H D (I.wish _) ⟨Y,ρ,cn,r,en,(by
  unfold ki at q;cases e:f ρ cn with
  | ok d s'=>rw[e]at q;exact q | ex c s'=>rw[e]at q;exact q.elim | no=>rw[e]at q;exact q.elim)⟩) (λ_ _ q=>q.unwish) (mt! z)
@[simp] theorem zo7(f:FS)(ρ:Ev)(s:Sto):ki f ρ s=(match ay! with | .ex _ _=>.no | r=>r):=V!
@[simp] theorem zsi(c:Str)(ρ:Ev)(s:Sto):z9f c ρ s=dW!:=V!
theorem z5W{K:W.Frag} : zh6 (z5B dJ! P w K mg R! N av! bF! f cd A au! s H E) E:=λ_ _ _ _ _ _ _ _ I hx hE=>zqO I hx hE
end Dd
namespace PySem
open PySem.Sem (wp)
section
variable {M:Model}{A:Around}{E:b1!}
theorem z0h{h:Heap}{g:r7!}{d:Drawn}{t:Nat}{os:OsState}{e C D:Addr}{oe:Obj}{Q:cj!->eL!} {nm q:Str}{N:Addr}{bs bm:bZ!}{hdct:Bool}{sn:aq!}{sub:bZ!}{ab:Bool}{col:rB!}{dd:oY!}{k0 k1 k2 k3 k5:aU!}{cL:String} {ni q':Str}{N':Addr}{nj io:bZ!}{fq:Bool}{nq:aq!}{ip:bZ!}{nr:Bool}{iq:rB!}{nt:oY!}{nu nv nw ny nA:aU!}{dH:String} (hC:eK! C (excClassObj nm q C N bs bm hdct sn sub ab col dd k0 k1 k2 k3 k5 cL))(hD:eK! D (excClassObj ni q' D N' nj io fq nq ip nr iq nt nu nv nw ny nA dH)) (he:eK! e oe)(cq:oe.cls=ap!)(am:io.contains (ar! "BaseException")=d!)(bN:qu! (lA! C::bm) (y! D)=d!) (hq:Q d! (fc! h g d t)):wpAny M A (excMatches ez! (y! D)) Q E (fc! h g d t):=by
 have f:=tc_notTuple;repeat (first | (with_reducible rw[cq]) | with_reducible refine _aQ hD ?_ | with_reducible refine _aQ hC ?_ | (with_reducible refine wpAny_isSubtype_exc hD ?_;rw[(show qu! (lA! D::io) (ar! "BaseException")=d! from by rw[List.contains_cons,am,Bool.or_true])]) | (with_reducible refine wpAny_isSubtype_exc hC ?_;rw[bN]) | wp_step)
 exact hq
end
end PySem
namespace Dd
open L2
theorem _root_.L2.Inv.locals{O:L2.St} (I:lQ! X ae O H s)(hn:h'.Ns j9! m')(sb:Heap.SameBut j9! L! h'): lQ! X ae (oM! X.N.length) H ({s with heap:=h',toks:=t}):=by
 have k:bJ! (i2! b->dx! b->dK! b):=λb o n e=>sb.extBut _ _ n e;have dW:bJ! (rY!=b! o->i2! b):=gQ! (_E (_j df! n8!));refine⟨nk!,ka!,jD!,⟨λb o e n nf ne=>k b o (dW b o e) (qk! b o e n nf ne),λb o e n hf ne=>?_,I.base.free,λb o e ne=>?_,I.base.tups,I.base.frzs,I.base.tbls⟩,⟨m',hn,λi x v h1 h2=>?_⟩,λx c e=>?_,iO!,lF!,bs! ?_,λa o e=>?_,by simp⟩
 ·obtain⟨sl,e1⟩:=qm! b o e n hf ne;exact⟨sl,k b _ (dW b o e) e1⟩
 ·obtain⟨o1,e1⟩:=oW! o e ne;exact⟨o1,k b _ (dW b o e) e1⟩
 ·rw[_bc]at h2;split at h2<;>cases h2
 ·obtain⟨v,o,ho,hd⟩:=mq! x c e;exact⟨v,o,k c o (I.cne x c e) ho,hd⟩
 ·obtain⟨q1,q2,q3,q4⟩:=lr! hp;exact⟨k p.1 p.2 q3 q1,q2,q3,q4⟩
 ·refine (n9! a o e).stay (λb u hb q=>k b u (λz=>?_) q) (λ_ q=>q) λ_ _ q=>q;have:=I.free;rw[<- z]at this;rcases hb with rfl | hb;·rw[e]at this;cases this
  ·rw[hb]at this;cases this
noncomputable abbrev Cx.at_(X:Cx)(pn:dp!)(xe:b1!):Cx:={X with pn:=pn,xe:=xe}
noncomputable abbrev Cx.mk_(X:Cx)(e:Addr)(pn:dp!):Cx:={X with A:=X.A.mark (b! ez!),calm:=false,pn:=pn,xe:=i4!}
theorem Cx.ok_at(ok:X.Ok) : (pv! X pn xe).Ok:= ⟨ok.mod,ok.kind,ok.glob,ok.blt,ok.above,ok.inj,ok.has,ok.cab,ok.hd,ok.frames,ok.stk,ok.exf,ok.bs,ok.bsz,ok.noex,ok.exfs,ok.funs,ok.frf⟩
theorem Cx.ok_of(ok:(pv! X pn xe).Ok):X.Ok:= ⟨ok.mod,ok.kind,ok.glob,ok.blt,ok.above,ok.inj,ok.has,ok.cab,ok.hd,ok.frames,ok.stk,ok.exf,ok.bs,ok.bsz,ok.noex,ok.exfs,ok.funs,ok.frf⟩
theorem Cx.ok_mk(ok:X.Ok) : (qT! X e pn).Ok:= ⟨ok.mod,ok.kind,ok.glob,ok.blt,ok.above,ok.inj,ok.has,ok.cab,(λh=>by cases h),ok.frames,ok.stk,ok.exf,ok.bs,ok.bsz,ok.noex,ok.exfs,ok.funs,ok.frf⟩
section
variable {X:Cx}{ae:dp!}{O:L2.St}{H:Hp}{s:Shared}
theorem _root_.L2.Inv.at_(I:lQ! X ae O H s) : lQ! (pv! X (iN!++ae) xe) [] O H s:= ⟨Cx.ok_at nk!,ka!,jD!,oa!,mr!,ob!,iO!,lF!,bs! (lr! (by simpa using hp)),eZ!,lE!⟩
theorem _root_.L2.Inv.of_at(I:lQ! (pv! X (iN!++ae) xe) pins' O H s):lQ! X ae O H s:= ⟨Cx.ok_of nk!,ka!,jD!,oa!,mr!,ob!,iO!,lF!,bs! (lr! (_a9 _ hp)),eZ!,lE!⟩
theorem _root_.L2.Inv.mk_(I:lQ! X ae O H s) : lQ! (qT! X e (iN!++ae)) [] O H s:= ⟨Cx.ok_mk nk!,ka!,jD!,oa!,mr!,ob!,iO!,lF!,bs! (lr! (by simpa using hp)),eZ!,lE!⟩
theorem _root_.L2.Inv.of_mk(ok:X.Ok)(I:lQ! (qT! X e (iN!++ae)) pins' O H s):lQ! X ae O H s:= ⟨ok,ka!,jD!,oa!,mr!,ob!,iO!,lF!,bs! (lr! (_a9 _ hp)),eZ!,lE!⟩
theorem Fly.land{s s':Shared} (un:Un mR! [] H H' L! gR!)(hok:HOk P w H' gR!)(fw:rK! B au! ap! a0 gR!) (cov:bJ! (sG!=b! o->(H' b≠a!\/((∃o',f3! b o')/\b∉mR!))->B.get? b=b! o))(dI:rK! B au! ap! a0 h5)(sm:s'.heap.UpToSlots h5): sR! ea=a!/\gf! ea/\Un mR! [] H (upd H' ea (zm4 C ea)) L! h5/\HOk P w (upd H' ea (zm4 C ea)) h5/\∃oe,h5.get? ea=b! oe/\oe.cls=ap!:=by
 have k:=dI.1;obtain⟨oe,vs,T,oT,ts,he,⟨cq,_⟩,hd,_⟩:=dI.2.2.2;obtain⟨pU,eZ,_,_,_,d8,_,gB,_⟩:=fw.2.2.2;have new:sR! ea=a!:=by cases z:sR! ea with
  | none=>rfl | some o=>
   exfalso;obtain⟨o1,e1⟩:=un.there ea o z (by simp);by_cases hf:ea∈mR!
   ·obtain⟨_,o2,e2,cW⟩:=fw.2.2.1.mem hf;rw[d8]at e2;cases e2;exact cW _ gB
   ·have:=cov ea o1 e1 (ew! (as! o z) hf);rw[fw.2.1]at this;cases this
 have hn:gf! ea:=by cases z:H' ea with
  | none=>rfl | some u=>
   have:=cov ea _ d8 (C! (by rw[z];simp));rw[fw.2.1]at this;cases this
 have fu:∀b u,H' b=b! u->b≠ea:=λb u e z=>by rw[z,hn]at e;cases e
 refine⟨new,hn,⟨λb o e n nf _=>(k b o (cov b o (un.keep b o e n nf (by simp)) (ew! (dD! o) nf))),λb o e n hf _=>?_,λb o e n _=>?_,λb o e _=>?_,λb xs e=>?_,λb o u e=>?_,λb ps e=>?_⟩,λa o e=>?_,oe,he,cq⟩
 ·obtain⟨sl,e1⟩:=un.slot b o e n hf (by simp);obtain⟨_,o2,e2,cW⟩:=fw.2.2.1.mem hf;rw[e1]at e2;cases e2;obtain⟨cE,e3⟩:=sm b _ e1 cW;exact as! cE e3
 ·rw[zM ((λb o e z=>by rw[z,new]at e;cases e) b o e)];exact un.free b o e n (by simp)
 ·by_cases hf:b∈mR!
  ·obtain⟨_,o2,e2,cW⟩:=fw.2.2.1.mem hf;obtain⟨cE,e3⟩:=sm b _ e2 cW;exact f9! e3
  ·obtain⟨o1,e1⟩:=un.there b o e (by simp);exact⟨o1,k b o1 (cov b o1 e1 (ew! (dD! o) hf))⟩
 ·have q:=un.tups b xs e;rw[zM (fu b _ q)];exact q
 ·have q:=un.frzs b o u e;rw[zM (fu b _ q)];exact q
 ·obtain⟨more,q⟩:=un.tbls b ps e;exact⟨more,by rw[zM (fu b _ q)];exact q⟩
 ·by_cases z:a=ea
  ·subst z;rw[yA]at e;cases e;exact⟨⟨oe,vs,he,cq,hd⟩,as! oe he,λh1 h2 ⟨o,ws,q1,q2,q3⟩ st=>⟨o,ws,st o q1,q2,q3⟩⟩
  ·rw[zM z]at e;refine (HOk.cov hok (λb o e n=>cov b o e (C! n)) k a o e).stay (λb u _ q=>q) (λb q=>?_) λb xs q=>?_;·rw[zM (fu b _ q)];exact q
   ·rw[zM (fu b _ q)];exact q
end
def zth(K:W.Frag)(mg:Str->aU!)(x y:Str):g!:=∃C D,fx! x ap!/\fx! y (y! D)/\rq! K C bmV=d!/\rq! K D bmV=d!/\ ∀h₀:Heap,K.In h₀->ExO h₀ C λbm _ _=>qu! (lA! C::bm) (y! D)=d!
theorem zkU{K:W.Frag}{h:Heap}{D:Addr}(X:hC!)(q:rq! K D bmV=d!):ExO h D λbm _ _=>bm.contains (ar! "BaseException")=d!:= let ⟨hC,_,_,_,_,T⟩:=ziQ X q;⟨hC,T.hasType _bB.hasBase⟩
section
variable {prog:Program}{w:World}{A:Around}{E:b1!}{s:Shared}{env:Env}
theorem z6E{e C D:Addr} {kE:em! ExceptHandler} (h:cG! w (nJ! ez!) (kz! t) (λc s₁=>c=y! D/\ (ExO lM! C λbm _ _=>qu! (lA! C::bm) (y! D)=d!)/\ (ExO lM! D λbm _ _=>bm.contains (ar! "BaseException")=d!)/\(∃oe,qD! e=b! oe/\oe.cls=ap!)/\ cG! w (nJ! ez!) (setFlight ez! a!) (λ_ s₂=> cG! w (nJ! ez!) (storeName env n ez!) (λ_ s₃=> cG! w (nJ! ez!) (execs (b₀::suite) env) (λf s₄=>cG! w A (do bindName env n ab!;unbindBehindTheSuite env n pos) (λ_ s₅=>Q f s₅) E s₄) (AsSuiteRaised if! (nJ! ez!) env n pos (notedBy if! (nJ! ez!) env (cameBackBy if! A env E))) s₃) (notedBy if! (nJ! ez!) env (cameBackBy if! A env E)) ms!) (notedBy if! (nJ! ez!) env (cameBackBy if! A env E)) jE!) (notedBy if! (nJ! ez!) env (cameBackBy if! A env E)) s): cG! w A (handleBy ez! env (.ExceptHandler (b! t) (b! n) (b₀::suite) pos::kE)) Q E s:=by
 refine wpAny_handleBy_cons (codeAny_handlers_test (_aa h (λc s₁ h₁=>?_) λ_ _ y=>y)) (by intro q;cases q);obtain⟨rfl,⟨hC,bN⟩,⟨hD,am⟩,⟨oe,he,cq⟩,hk⟩:=h₁;exact z0h hC hD he cq am bN (codeAny_handlers_suite_as hk)
end
noncomputable def zqN(cs:aq!)(fb:FS)(j:Nat)(fh:FS):FS:=e2! (match fb ρ s with
 | .ex c s1=>ae! (c∈cs) (match fh (g8! (oM! qJ!) j (.exc c)) s1 with
  | .ok (.rt d) s2=>ba! (.rt d) | _=>.no) | .ok (.rt d) s1=>I! (.rt d) | _=>.no)
theorem zkO{mg:Gm}{H:Hp}{Y:ao!}{O:L2.St}{n j:Nat}{d:D}{v:V}(hl:n=qj!)(dn:fz!):z2E mg H Y (g8! (oM! n) j d) (lb! j):= ⟨by rw[_cx,_bt,_cx,hl],λi d' hi=>by
  by_cases z:j=i
  ·subst z;have hj:j<n:=by have:=cV! hi;rwa [_cx,_bt]at this
   rw[_aj (by rw[_bt];exact hj)]at hi;cases hi;exact⟨v,_aj (hl ▸ hj),dn⟩
  ·rw[_ac z,_bc]at hi;split at hi<;>cases hi⟩
section
variable {X:Cx}{E:XK}{pos fB np:Pos}
theorem zu1(dC:jB!=az!::kQ!) (aI:X.env.frame=b! j9!) (cb:lD!=[]) (cS:∀c∈cs,zth X.K fG! c y) (hg:iE! y) (hN:X.N.Nodup) (hj:G! X.N j n) (dJ:e7! n) (hb:∀(pn:List (Addr×Obj)) (xe:Value->Shared->Prop) (E1:XK),Passes (CX1 aV! X.w) (pv! X pn xe) E1->RSs (pv! X pn xe) E1 dM! fb) (hh:∀(e:Addr) (pn:List (Addr×Obj)),RSs (qT! X e pn) E0 (b₀::suite) fh) (aG:cp! (y==cP!)): RS X E (.Try dM! [.ExceptHandler (b! (.Name y np)) (b! n) (b₀::suite) fB] [] [] pos) (zqN cs fb j fh):=by
 intro ae s O H D I hw;obtain⟨Y,ρ,cn,r,en,h⟩:=hw;have ap:qJ!=X.N.length:=by rw[en.len,I.len]
 refine wpAny_Try_except ?_;generalize hEb:(λ(e:Value) (s₁:Shared)=>bR! (noteFrame e az!) (λ_ s₂=>bR! (setFlight e a!) (λ_ s₃=>bR! (handleBy e az! [.ExceptHandler (b! (.Name y np)) (b! n) (b₀::suite) fB]) (SP X ae D) s₃) ms!) jE!)=Eb;let E1:XK:=λv _ H'=>∃c Y' ay C d s2,v=ap!/\c∈cs/\X.mg c=b! ap!/\uh M! H Y H' Y' ay/\fh (g8! (oM! qJ!) j (.exc c)) ay=ba! (.rt d)/\okR M! E H Y (FlD M!) (ba! (.rt d)) (zjn D);have iu:Passes (CX1 aV! X.w) (pv! X (iN!++ae) Eb) E1:=by
  intro pins' O' H1 s1 e s' I1 nB;obtain⟨C,ea,H',he,fl,hE⟩:=nB;subst he;obtain⟨c,Y',ay,C',d,s2,eC,cQ,gq,stp,nC,ok⟩:=hE;cases eC;have J1:=I1.of_at;obtain⟨B,a0,fw,cov⟩:=fl.fly;have fw:rK! B (az!::kQ!) ap! a0 gR!:=by rw[<- dC];exact fw
  have un:Un (frs (az!::kQ!)) [] H1 H' qt! gR!:=by rw[<- dC];exact fl.un
  have land:∀h5,rK! B (az!::kQ!) ap! a0 h5->s'.heap.UpToSlots h5->lQ! X ae O' (upd H' ea (zm4 C ea)) ({s' with heap:=h5})/\gf! ea/\∃oe,h5.get? ea=b! oe/\oe.cls=ap!:=λh5 dI sm=>by
   obtain⟨_,hn,nD,iw,oe⟩:=Fly.land un fl.hok fw (by rw[<- dC];exact cov) dI sm;exact⟨J1.call' (s':={s' with heap:=h5}) (ch:=[]) fl.os (by rw[dC];exact nD) iw fl.bare (λb z=>pd! (by simp)),hn,oe⟩
  rw[<- hEb];refine wpAny_looks_onW (base:=B) (by rw[<- dC];exact J1.ok.frames) aI fw λh4 iz k6=>?_;refine wpAny_landsW iz λh5 dI k7=>?_;obtain⟨I5,pV,nE⟩:=land h5 dI (k6.trans k7);obtain⟨C2,D2,cj,nF,q1,q2,bN⟩:=cS c cQ;rw[gq]at cj;cases cj;refine z6E (C:=C) (D:=D2) (z4v (X:=qT! X ea (iN!++ae)) I5.mk_ hg nF ⟨rfl,bN _ I5.kIn,zkU I5.kIn q2,nE,?_⟩ aG)
  ·refine lands_againW dI λh6 nG nH=>?_;obtain⟨I6,nI,pW⟩:=land h6 nG (aJ! (k6.trans k7) nH);refine z3q (X:=qT! X ea (iN!++ae)) I6.mk_ hN hj (C! dJ) (show wQ (y! ea) (y! ea) from rfl) (λs7 I7=>?_) (T! dJ);have nJ:uh M! H' Y' (upd H' ea (zm4 C ea)) Y' ay:=uh.lay dO! nI (by intro vs z;cases z);have fC:=stp.trans nJ;have nK:=zkO (d:=.exc c) (v:=y! ea) (j:=j) (n:=ρ.length) (Y:=Y') (mg:=M!) (H:=upd H' ea (zm4 C ea)) (O:=O') (ap.trans J1.len.symm) (g6! ea C gq yA);have run:=hh ea (iN!++ae) [] s7 (O'.set j (b! (y! ea))) (upd H' ea (zm4 C ea)) {nx:=i4!,rt:=D.rt} I7 ⟨Y',_,ay,fC.rep,nK,by
    rw[nC];intro fv H2 Y2 ag fd;cases fv with
    | rt v=>exact ok (.rt v) H2 Y2 (fC.trans ag) fd | _=>exact b7! (show False from fd)⟩;refine le! run (λfl s8 q8=>?_) z.elim;cases fl with
   | ret u=>
    obtain⟨v,O8,H8,I8,rv,q8⟩:=q8;have J8:=I8.of_mk J1.ok;obtain⟨m,hn,_⟩:=J8.loc;refine wpAny_nameGoes (env:=X.env) dJ hn (by rw[J1.ok.kind];rfl) λh9 m9 nM nN=>?_;exact⟨v,_,H8,J8.locals nM nN,rv,q8⟩ | next=>obtain⟨_,_,_,z⟩:=q8;exact z.elim | brk=>obtain⟨_,_,_,z⟩:=q8;exact z.elim | cont=>obtain⟨_,_,_,z⟩:=q8;exact z.elim
 have run:=hb (iN!++ae) Eb E1 iu [] s O H {nx:=i4!,rt:=D.rt} I.at_ ⟨Y,ρ,cn,r,en,?_⟩
 ·refine le! run (λfl s1 q1=>?_) z;cases fl with
  | ret u=>
   obtain⟨v,O8,H8,I8,rv,q8⟩:=q1;exact⟨v,O8,H8,I8.of_at,rv,q8⟩ | next=>obtain⟨_,_,_,z⟩:=q1;exact z.elim | brk=>obtain⟨_,_,_,z⟩:=q1;exact z.elim | cont=>obtain⟨_,_,_,z⟩:=q1;exact z.elim
 ·unfold zqN at h;cases e:fb ρ cn with
  | no=>rw[e]at h;exact h.elim | ok fl s1=>
   rw[e]at h;cases fl with
   | rt d=>
    intro fv H2 Y2 ag fd;cases fv with
    | rt v=>exact h (.rt v) H2 Y2 ag fd | _=>exact b7! (show False from fd)
   | _=>exact h.elim
  | ex c s1=>
   rw[e]at h;intro H' Y' C stp gq;simp only at h;split at h
   ·rename_i cQ;cases e2:fh (g8! (oM! qJ!) j (.exc c)) s1 with
    | no=>rw[e2]at h;exact h.elim | ex _ _=>rw[e2]at h;exact h.elim | ok fl s2=>
     rw[e2]at h;cases fl with
     | rt d=>exact⟨c,Y',s1,C,d,s2,rfl,cQ,gq,stp,e2,h⟩ | _=>exact h.elim
   ·exact h.elim
end
end Dd
namespace PySem
open PySem.Sem (wp)
open PySem.W
structure ExcCls(K:Frag)(C:Addr):g! where
 ga:findIn K ap! "__getattribute__"=b! (h4! m9!)
 gh:findIn K ap! "__getattr__"=b! a!
 cl:findIn K ap! ph!=b! (b! oJ!)
 ob:mroIn K C (ar! "object")=b! d!
 be:mroIn K C (ar! "BaseException")=b! d!
 ty:∃d cd sl,m8! C=b! ⟨ar! "type",d,.cls cd,sl⟩
section
variable {prog:Program}{w:World}{A:Around}{E:b1!}{K:Frag}{h:Heap}{g:r7!}{d:Drawn}{t:Nat}{os:OsState}{a C:Addr}{o:Obj}
theorem zrD{M:Model}(hx:cK! a)(hc:gp!=ap!):Looks M h (typeOf ag!) ap!:=by
 intro A' Q' E' s' k q;unfold typeOf;refine _a (wpAny_loadPart (k _ _ hx) ?_);rw[hc];exact _m q
theorem zat{R:Result->eL!}(X:hC!)(Fx:pw! K C)(hx:cK! a)(hc:gp!=ap!)(hq:R (.ok (.ret ap!)) (fc! h g d t)): kT! if! A (.call (.builtin "getset_descriptor.__get__") (dT! [oJ!,ag!,ap!])) R (fc! h g d t):=by
 have k8:(fc! h g d t:n5!).TypeIs oJ! "getset_descriptor":=_cb;have L1:=looks_mroIn (M:=if!) X Fx.ob;rw[<- F.owner_object_class]at L1;refine codeAny_call_builtin F.slot_gs_get.plain F.entry_gs_get (F.slot_gs_get.check _ _ _ _ _ _ _ _ k8 (F.args_gs_get _ _ _) ?_);repeat (any_goals (first | assumption | (with_reducible refine _aQ hx ?_;rw[hc]) | (with_reducible refine L1.at ?_) | wp_step))
 refine⟨Code.quiet_builtin _ (by decide +kernel),codeAny_builtin F.entry_object_class ?_⟩;repeat (any_goals (first | assumption | (with_reducible refine _aQ hx ?_;rw[hc]) | wp_step))
theorem z6f{tk:Tok}{Q:Fin->eL!}(X:hC!)(Fx:pw! K C)(hx:cK! a)(hc:gp!=ap!)(hq:Q (.done (.ret ap!)) (fc! h g d t)): cG! w A (Builtin.«object.__getattribute__» (dT! [ag!,.str ph! tk])) Q E (fc! h g d t):=by
 have k8:(fc! h g d t:n5!).TypeIs oJ! "getset_descriptor":=_cb;have L4:=looks_findIn (M:=if!) X Fx.cl;have f5:=_cb;have f6:=F.slot_gs_get.lookup;have f7:=F.slot_gs_set.lookup;repeat (any_goals (first | assumption | (with_reducible refine _aQ hx ?_;rw[hc]) | (with_reducible refine L4.at ?_) | wp_step))
 refine zat X Fx hx hc ?_;repeat (any_goals (first | assumption | wp_step))
theorem zcF{M:Model}{dh:Value}{Q:Unit->eL!}(X:hC!)(Fx:pw! K C)(hx:cK! a)(hc:gp!=ap!)(hq:Q () (fc! h g d t)):wpAny M A (checkBuiltinCall m9! (dT! [ag!,dh])) Q E (fc! h g d t):=by
 have hk:builtinKind m9!=b! .slot:=by decide +kernel
 have dL:splitId m9!=b! ("BaseException","__getattribute__"):=by decide +kernel
 have L1:=looks_mroIn (M:=M) X Fx.be;have ha:=F.args_bexc_ga ag! dh;simp only[checkBuiltinCall,hk,dL];refine _a ?_
 ·unfold isInstance;repeat (first | (with_reducible refine _aQ hx ?_;rw[hc]) | (with_reducible refine L1.at ?_) | wp_step)
  exact hq
theorem z8g{tk:Tok}{R:Result->eL!}(X:hC!)(Fx:pw! K C)(hx:cK! a)(hc:gp!=ap!)(hq:R (.ok (.ret ap!)) (fc! h g d t)): kT! if! A (.call (.builtin m9!) (dT! [ag!,.str ph! tk])) R (fc! h g d t):= codeAny_call_builtin F.attrBase_ValueError.ga.plain F.entry_bexc_ga (zcF X Fx hx hc (z6f X Fx hx hc hq))
theorem zbL{tk:Tok}{fill dM:Bool}{Q:b1!}(X:hC!)(Fx:pw! K C)(hx:cK! a)(hc:gp!=ap!)(hq:Q ap! (fc! h g d t)): cG! w A (getAttrBy ag! (.str ph! tk) fill dM) Q E (fc! h g d t):=by
 have f3:=F.attrBase_ValueError.ga.bind ag!;have pX:(dM&&onTheHeap (Value.builtin m9!))=q!:=by cases dM<;>rfl
 have gu:(Value.builtin m9!==Value.builtin "object.__getattribute__")=q!:=by decide +kernel
 have iA:(onTheHeap (lA! C)&&Value.builtin m9!==Value.builtin "object.__getattribute__")=q!:=by rw[gu];rfl
 have L1:=looks_findIn (M:=if!) X Fx.ga;have L2:=looks_findIn (M:=if!) X Fx.gh;repeat (any_goals (first | assumption | (with_reducible refine _aQ hx ?_;rw[hc]) | (with_reducible refine L1.at ?_) | (with_reducible refine L2.at ?_) | wp_step))
 refine z8g X Fx hx hc ?_;repeat (any_goals (first | assumption | wp_step))
theorem z8v{Q:aU!->eL!}(X:hC!)(Fx:pw! K C)(hx:cK! a)(hc:gp!=ap!)(hq:Q (b! ap!) (fc! h g d (t+1))):cG! w A (getAttr? ag! ph!) Q E (fc! h g d t):=by
 unfold getAttr? getAttrBy?;repeat (any_goals (first | assumption | with_reducible apply zbL X Fx hx hc | (with_reducible refine _aQ hx ?_;rw[hc]) | wp_step))
end
theorem zkb{K:Frag}{a C:Addr}(Fx:pw! K C):KitX K ag! ap! (λh=>∃o,cK! a/\gp!=ap!) where
 ty:=λ_ _ _ ⟨_,hx,hc⟩=>zrD hx hc;it:=λ_ _ X _=>by
  obtain⟨dd,cd,sl,ho⟩:=Fx.ty;intro A' Q' E' s' k q;unfold isType loadHead;exact _a (wpAny_loadPart (k _ _ (X _ _ ho)) (_m q))
 ne:=λh tp dd af n sl X fD=>by
  obtain⟨d2,cd,cE,ho⟩:=Fx.ty;cases e:(lA! C==lA! tp) with
  | false=>rfl | true=>
   have e:=eq_of_beq e;cases e;have:=X _ _ ho;rw[fD]at this;simp at this
 ca:=λ{prog w A E Q s} X p hq=>by
  obtain⟨h,g,d,t,os⟩:=s;obtain⟨o,hx,hc⟩:=p;exact z8v X Fx hx hc hq
end PySem
namespace L2
section
variable {X:Cx}{ae:dp!}{O:St}{H:Hp}{s:Shared}{A:Around}{E:b1!}{Q:b1!}{b:Bool}
theorem zgd(I:N!) (rx:wQ x u) (ty:zcV X.K H x t) (ht:H tp=b! (n! cs)) (e:∀af,xt cs af->W.kitAny X.K t af=b! b) (h:∀tk,Q lq! {s with toks:=tk}): gu! aV! X.w A (p8! gP! [u,y! tp]) Q E s:=by
 obtain⟨_,af,vi,o,g1,g2,_,n,g3⟩:=(g9! tp ht);have e:=e af vi;obtain⟨oc,od,oD,os⟩:=o;cases g2;cases g3;cases ty with
 | non=>cases (rx);exact _bs W.kitx_none jF! lI! g1 e (λz=>nomatch z) h | bl y=>cases (rx);exact _bs W.kitx_bool jF! lI! g1 e (λz=>nomatch z) h | int i=>obtain⟨t,q⟩:=(rx);cases q;exact _bs W.kitx_int jF! lI! g1 e (λz=>nomatch z) h | str y=>obtain⟨t,q⟩:=(rx);cases q;exact _bs W.kitx_str jF! lI! g1 e (λz=>nomatch z) h | flt y=>obtain⟨t,q⟩:=(rx);cases q;exact _bs W.kitx_float jF! lI! g1 e (λz=>nomatch z) h | @lst a xs ea=>
  cases (rx);obtain⟨_,_,n,_,h1⟩:=(g9! a ea);exact _bs W.kitx_list jF! (ce! h1) g1 e (λz=>nomatch z) h | @frz a ob xs ea=>
  cases (rx);obtain⟨_,_,_,n,_,h1⟩:=(g9! a ea);exact _bs W.kitx_list jF! (ce! h1) g1 e (λz=>nomatch z) h | @tup a xs ea=>
  cases (rx);obtain⟨_,_,_,p⟩:=(g9! a ea);obtain⟨o,h1,h2,_⟩:=p;exact _bs W.kitx_tuple jF! (cB! h1 h2) g1 e (λz=>nomatch z) h | @dK a ah ea=>
  cases (rx);obtain⟨_,_,vs,_,p⟩:=(g9! a ea);obtain⟨o,es,ep,h1,h2,_⟩:=p;exact _bs W.kitx_dict jF! (cB! h1 h2.1) g1 e (λz=>nomatch z) h | @dT a ah ea=>
  cases (rx);obtain⟨_,_,xs,_,o,es,ep,h1,h2,_⟩:=(g9! a ea);exact _bs W.kitx_dict jF! (cB! h1 h2.1) g1 e (λz=>nomatch z) h | @ins a C dx fs ea cl ha hn fU hm=>
  cases (rx);obtain⟨mA,Oo,_⟩:=zhS eZ! ea;obtain⟨od,J,_⟩:=Oo.look;exact _bs (W.kitx_own (cl.get _) cl.hd ha hn fU hm) jF! J g1 e (λz=>nomatch z) h
end
theorem zck: mk! X gP! (∃x t tp T U b,xs=[x,y! tp]/\H tp=b! (n! [.ty T,.ty U])/\zcV X.K H x t/\W.kitAny X.K t [kD!,ar! U]=b! b/\Q (.bl b) H):=by
 intro ae s O H xs us Q I r h;obtain⟨x,t,tp,T,U,b,rfl,fD,ht,hk,q⟩:=h;obtain⟨u,v,rfl,ru,rv⟩:=vals2 r;cases rv;refine zgd I ru ht fD (λaf vi=>?_) λtk=>br! (.bl b) H iz! q;obtain⟨u1,u2,rfl,r1,r2⟩:=vals2 vi;cases r1;cases r2;exact hk
end L2
namespace Dd
open L2
section
variable {X:Cx}{E:XK}{e a b c tg:Expr}{es:aI!}{pos:Pos}{CX:CXT}
theorem znk{K:W.Frag} (h:t∈["NoneType",ig!,eE!,go!,c2!,en!,nP!])(hT:T∈[eE!,ig!,go!,c2!,en!])(hU:U∈[eE!,ig!,go!,c2!,en!]):W.kitAny K (ar! t) [kD!,ar! U]=b! (isT T t||isT U t):=by
 simp only[W.kitAny,zdZ h T hT,zdZ h U hU];cases isT T t<;>cases isT U t<;>rfl
noncomputable def zue(T U:String):D->bi!:=λd s=>match tyD d with | some t=>cb! (isT T t||isT U t) | none=>.no
noncomputable def ztL(T U:String)(f:FE):FE:=e2! (eh! (zue T U d s1))
theorem ztQ{p p1 p2 pt:Pos}{k:Nat} (hT:T∈[eE!,ig!,go!,c2!,en!])(hU:U∈[eE!,ig!,go!,c2!,en!])(hv:k4! tn kD!)(nO:k4! un (ar! U))(hg:iE! gP!)(hm:dS! gP!)(nP:iE! tn)(k9:dS! tn)(cK:iE! un)(cj:dS! un)(he:fA! f) (hn:kj! (mc! tn))(hd:cp! (tn==cP!))(eY:kj! (mc! un))(eM:cp! (un==cP!)) (hs:B! (aw! [e,hP! [.Name tn p1,fP! un] k pt]=d1!::aw! [hP! [.Name tn p1,fP! un] k pt]))(au:eg! [hP! [.Name tn p1,fP! un] k pt] (·.1)): Y! (dw! gP! p [e,hP! [.Name tn p1,fP! un] k pt]) (ztL T U f):= yp (z3E zck hg hm (by decide +kernel) (wV he (wV (zlO (wV (zaf nP k9 hv (show wQ (.ty T) kD! from rfl) hn hd) (wV (zaf cK cj nO (show wQ (.ty U) (ar! U) from rfl) eY eM) z1e (zr ..)) (zr ..))) z1e (zey ..)) hs) (by decide) (by decide) hs au) λO H Q ⟨Y,ρ,s,r,en,h⟩=>by
  refine yR (k:=kV! (zue T U d s1)) r en h _ λv H1 Y1 s1 d r1 av dn stp h1=>?_;unfold zue at h1;split at h1
  ·rename_i t et;refine⟨(show 2<=aY! from by decide +kernel),λtp fD=>?_⟩;have bj:=uh.lay (o:=n! [.ty T,.ty U]) r1 fD (by intro _ z;cases z);obtain⟨q1,q2⟩:=zmf bj.rep (rQ! bj) et;exact⟨v,ar! t,tp,T,U,isT T t||isT U t,rfl,yA,q1,znk q2 hT hU,h1 _ _ _ bj wN⟩
  ·exact h1.elim
end
end Dd
namespace L2
open MeetsSeq MeetsSeq2 SeqAt
def zrz(k:Bool):eB! d2!
 | .bool b=>b==k | _=>false
theorem zav:∀{bs:List Bool}{af:List Value},xt (bs.map V.bl) af->af=bs.map Value.bool
 | [],_,.nil=>rfl | b::bs,_,.cons r rs=>by
  cases r;rw[zav rs];rfl
theorem zms:∀(bs:List Bool)(k:Bool)(m:Nat)(hm:m<bs.length),m<sh!->(bs[m]==k)=q!
 | [],k,m,hm,_=>bO! hm (by simp) | b::bs,k,m,hm,h=>by
  rw[List.idxOf_cons]at h;cases e:b==k with
  | true=>rw[e]at h;simp at h | false=>
   rw[e]at h;cases m with
   | zero=>simpa using e | succ m=>simpa using zms bs k m (by simpa using hm) (by simpa using h)
section
variable {X:Cx}
def ztb:V->aG!->Hp->eU!:=λx vs H Q=>∃(p:Addr)(bs:List Bool)(k:Bool),x=cg!/\vs=[.bl k]/\Rd H p (X! (bs.map V.bl))/\Q (c! (bs.count k:Nat)) H
theorem zdY:MtR X "list.count" ztb:=by
 intro ae s O H x vs v us Q I rx rv h;obtain⟨p,bs,k,rfl,rfl,hp,q⟩:=h;cases rx;obtain⟨u,rfl,ru⟩:=vals1 rv;cases ru;obtain⟨_,af,n,r,e1⟩:=hp.ok eZ!;cases zav r;refine _bh PySem.F.slot_list_count (ce! e1) PySem.F.entry_list_count (PySem.F.args_list_count_2 _ _) (list_countAt p _ n _ _ (.bool k) (zrz k)) ⟨e1,cN! ?_,?_⟩
 ·obtain⟨b,_,rfl⟩:=_q.mp (_dz.mp hy);exact EqAt.bool_bool b k
 ·have e:(List.map Value.bool bs).countP (zrz k)=bs.count k:=by rw[List.countP_map];rfl
  refine⟨c! (bs.count k),H,mu! (gQ! e),as! fZ! ?_,q⟩;rw[<- e]
def ztw:V->aG!->Hp->eU!:=λx vs H Q=>∃(p:Addr)(bs:List Bool)(k:Bool),x=cg!/\vs=[.bl k]/\Rd H p (X! (bs.map V.bl))/\k∈bs/\qK!<2 ^ 62/\Q (c! (sh!:Nat)) H
theorem zdr:MtR X "list.index" ztw:=by
 intro ae s O H x vs v us Q I rx rv h;obtain⟨p,bs,k,rfl,rfl,hp,hk,hl,q⟩:=h;cases rx;obtain⟨u,rfl,ru⟩:=vals1 rv;cases ru;obtain⟨_,af,n,r,e1⟩:=hp.ok eZ!;cases zav r;have hj:sh!<qK!:=List.idxOf_lt_length_iff.mpr hk;refine _bh PySem.F.slot_list_index (ce! e1) PySem.F.entry_list_index (PySem.F.args_list_index_2 _ _) (list_indexAt p _ n _ _ (.bool k) (zrz k) sh! (by simpa using hj) (by lia) ?_ ?_) ⟨e1,cN! ?_,⟨c! sh!,H,mu! (gQ! e),cl! fZ!,q⟩⟩;·simp[zrz,(_cU hj)]
 ·intro m hm bv;simpa[zrz] using (zms bs k m (by simpa using hm) bv)
 ·obtain⟨b,_,rfl⟩:=_q.mp (_dz.mp hy);exact EqAt.bool_bool b k
end
end L2
namespace Dd
open L2
section
variable {X:Cx}{E:XK}{o e:Expr}{pos:Pos}
noncomputable def zqZ(fo fv:FE):FE:=ca! (fo ρ s) (λo s1=>match o with
 | .lst ds=>D! (fv ρ s1) (λd s2=>match oq! ds,d with
  | some ns,.bl k=>ba! (c! (ns.count k:Nat)) | _,_=>.no)
 | _=>.no)
theorem zju{ao:Pos} (ho:Y! o fo)(hv:fA! fv)(am:B! (l7! o "count" gI!=gI!)) (aH:dq! (hD! (hX! pos [e]) (! x.1)&&hD! (nF! pos [] az!) (gq! x.1) && bl! (t! [e]+t! ([]:g2!)+(nG! ([]:g2!) 0 1)<30))) (ai:dq! (sy! oe!))(hs:B! (aw! [e]=d1!::aw! []))(aw:eg! [] (·.1)): Y! (fJ! (mN! o "count") [e] [] pos) (zqZ fo fv):= yp (zoN _bY PySem.F.slot_list_count PySem.F.type_list_count zdY ho (wV hv z1e hs) am aH ai hs aw) λO H Q ⟨Y,ρ,s,r,en,h⟩=>by
  refine⟨Y,ρ,s,r,en,(okR.bind (Dn:=ll!) h).imp λov H1 ⟨Y1,s1,od,stp,dn,h1⟩=>?_⟩;cases od with
  | lst ds=>
   refine as! (by
    obtain⟨a,ob,vs,rfl,e1,_⟩:=dn;exact C! ⟨rfl,vs,C! (ew! ob e1)⟩) ⟨Y1,ρ,s1,dO!,it!,(okR.bind (Dn:=ll!) h1).imp λv H2 ⟨Y2,s2,d,ag,ax,h2⟩=>?_⟩;split at h2
   ·rename_i ns k ei;cases z0E ax;obtain⟨a,ob,vs,rfl,e1,e2⟩:=me!;rw[z5V ei]at e2;cases z5P e2;exact⟨a,ns,k,rfl,rfl,ew! ob e1,h2.here jJ! yH⟩
   ·exact h2.elim | _=>exact h1.elim
noncomputable def zqP(fo fv:FE):FE:=ca! (fo ρ s) (λo s1=>match o with
 | .lst ds=>D! (fv ρ s1) (λd s2=>match oq! ds,d with
  | some ns,.bl k=>ae! (k∈ns/\e1!<2 ^ 62) (ba! (c! (p5!:Nat))) | _,_=>.no)
 | _=>.no)
theorem zkR{ao:Pos} (ho:Y! o fo)(hv:fA! fv)(am:B! (l7! o "index" gI!=gI!)) (aH:dq! (hD! (hX! pos [e]) (! x.1)&&hD! (nF! pos [] az!) (gq! x.1) && bl! (t! [e]+t! ([]:g2!)+(nG! ([]:g2!) 0 1)<30))) (ai:dq! (sy! oe!))(hs:B! (aw! [e]=d1!::aw! []))(aw:eg! [] (·.1)): Y! (fJ! (mN! o "index") [e] [] pos) (zqP fo fv):= yp (zoN _bY PySem.F.slot_list_index PySem.F.type_list_index zdr ho (wV hv z1e hs) am aH ai hs aw) λO H Q ⟨Y,ρ,s,r,en,h⟩=>by
  refine⟨Y,ρ,s,r,en,(okR.bind (Dn:=ll!) h).imp λov H1 ⟨Y1,s1,od,stp,dn,h1⟩=>?_⟩;cases od with
  | lst ds=>
   refine as! (by
    obtain⟨a,ob,vs,rfl,e1,_⟩:=dn;exact C! ⟨rfl,vs,C! (ew! ob e1)⟩) ⟨Y1,ρ,s1,dO!,it!,(okR.bind (Dn:=ll!) h1).imp λv H2 ⟨Y2,s2,d,ag,ax,h2⟩=>?_⟩;split at h2
   ·rename_i ns k ei;split at h2
    ·rename_i hk;cases z0E ax;obtain⟨a,ob,vs,rfl,e1,e2⟩:=me!;rw[z5V ei]at e2;cases z5P e2;exact⟨a,ns,k,rfl,rfl,ew! ob e1,hk.1,hk.2,h2.here jJ! yH⟩
    ·exact h2.elim
   ·exact h2.elim | _=>exact h1.elim
end
end Dd
namespace L2
structure km(k:Nat)(A:Around):g! where
 dp:qw!+3*k+5<recursionLimit
 un:pn!+16*k+200<np!
 gd:A.guards=b! []
theorem z2G.h{k:Nat}{A:Around}(r:z2G k A):km k A:=a3! r.dp r.un r.gd
theorem km.mono{j k:Nat}{A:Around}(r:km k A)(h:j<=k):km j A:=⟨by have:=r.dp;omega,by have:=r.un;omega,r.gd⟩
theorem km.deeper{k:Nat}{A:Around}(r:km (k+1) A)(env:Env):km k (A.deeper env):= ⟨by have:=r.dp;show qw!+1+3*k+5<_;omega,by have:=r.un;show pn!+3+16*k+200<_;omega,r.gd⟩
theorem km.depth{k:Nat}{A:Around}(r:km k A):qw!<recursionLimit:=by have:=r.dp;omega
theorem km.units{k:Nat}{A:Around}(r:km k A):pn!+64<np!:=by have:=r.un;omega
structure zio(P:Program)(w:World)(K:W.Frag)(mg:Str->aU!)(base:Heap)(CX:CXT)(k:Nat)(f:Addr)(fd:FuncData)(ps:aq!)(sp:Sp):g! where
 len:∀vs H Q E,sp vs H Q E->mI!
 run:∀(A:Around)(outer:List Env)(s:Shared)(H:Hp)(args:Args)(us:List Value)(vs:List V)(Q:VK)(E:XK),km k A->zsa P w K mg R! A au! s H->qx! s fd kb! mi!->kB! vs->sp vs H Q E-> kT! (model P w) A (.call ft! kb!) (CR CX au! P w H s Q E) s
theorem zpo{CX:CXT} {P:Program} {w:World} {K:W.Frag} {mg:Str->aU!} {base:Heap} {k:Nat} {f:Addr} {name qual:Str} {params:Arguments} {body:nK!} {scope:Scope} {dV kV aE pm aj ct oc:Value} {an od:oY!} {cC:Array aU!} {N ps:aq!} {sp:Sp} (lk:m8! f=b! ⟨oc,od,.func (W.fnOf iQ! av! params dM! bF! dV kV aE pm an aj ct),cC⟩) (bz:W.codeIn K aj av!=d!) (S:zu N ps bF!) (len:∀vs H Q E,sp vs H Q E->mI!) (aZ:∀(A:Around) (outer:List Env) (s:Shared) (H:Hp) (vs:List V) (Q:VK) (E:XK),km k (kx! av! bF! f aj)->sp vs H Q E-> ∃t,PSs (z5B CX P w K mg R! N av! bF! f aj A au! s H E) dM! t/\t {nx:=λ_ H'=>Q aA! H',rt:=Q} (pf! N) H): zio P w K mg R! CX (k+1) f (W.fnOf iQ! av! params dM! bF! dV kV aE pm an aj ct) ps sp:=by
 refine⟨len,λA outer s H args us vs Q E hr e0 hb r cD=>?_⟩;have hl:=len _ _ _ _ cD;have KX:K.In L!:=e0.mod.kin.keeps (gQ! (e0.bs b o e).1);have nQ:s.heap.NoLimit:=e0.mod.nolimit.keeps (gQ! (e0.bs b o e).1);have fE:∀y∈mi!,kc! y.1=b! pj!\/(kc! y.1=dH!/\gq! (po! (mD! dZ! []) y.1)=d!):=λ⟨n,v⟩ hy=>by
  rcases S.par n (_ae hy).1 with q | q;·exact C! q
  ·exact ew! q (_ds _ _ _ (C! q))
 refine codeAny_call_function hr.depth (KX _ _ lk) rfl S.co S.gen rfl (W.codeRec_of KX bz) (hb _ _ _ _ ?_);refine wpAny_newFunctionEnv_cells S.kind fE λenv he s1 x=>?_;subst he;refine⟨nQ.keeps x.toInCall.keep,codeAny_func ?_⟩;obtain⟨t,ht,hq⟩:=aZ A au! s H vs Q E (hr.deeper _) cD;have I:Inv (z5B CX P w K mg R! N av! bF! f aj A au! s H E) [] (pf! N) H s1:=zbS S e0 hl r x;refine _aa (ht [] s1 (pf! N) H _ I hq) (λfl s' hs=>?_) λe s' hs=>hs;have fin:∀{O':St} {H':Hp} {v:V} {u:Value},Inv (z5B CX P w K mg R! N av! bF! f aj A au! s H E) [] O' H' s'->wQ v u->Q v H'->CE au! P w H s Q u s':= λ{O' H' v u} J rv q=>⟨v,H',J.os,J.bare,J.base,J.hok,rv,q⟩;cases fl with
 | ret u=>
  obtain⟨v,O',H',J,rv,q⟩:=hs;exact fin J rv q | next=>
  obtain⟨O',H',J,q⟩:=hs;exact fin (v:=V.non) (u:=Value.none) J rfl q | brk=>
  obtain⟨_,_,_,q⟩:=hs;exact mt! q | cont=>
  obtain⟨_,_,_,q⟩:=hs;exact mt! q
section
variable {X:Cx}{CX:CXT}{k:Nat}{f:Addr}{fd:FuncData}{ps:aq!}{sp:Sp}{ds:bZ!}{bJ:aG!}{E:XK}{x:Str}{p pos:Pos}{e:Expr}{es:aI!}{t:TA}
theorem znu{ae:dp!}{O:St}{H:Hp}{s:Shared}{Q:VK}{us:bZ!}{vs:aG!}(F:zio aV! X.w X.K fG! fm! CX k f fd ps sp)(hr:km k X.A)(hb:kF! X.K ps ds)(hd:xt bJ ds)(hx:ld! X E) (I:N!)(r:kB! vs)(h:sp (vs++bJ) H Q E):bR! (call ft! us) (EP X ae O Q) s:=by
 have r2:xt (vs++bJ) (us++ds):=r.append hd;have hl:t! (us++ds)=a5!:=by rw[<- r2.length];exact F.len _ _ _ _ h
 refine wpAny_call (_dK (F.run X.A jB! s H (dT! us) (us++ds) (vs++bJ) Q E hr I.env0 (hb s us jF! hl) r2 h) λr s' hq=>?_);cases r with
 | error e=>exact hx ae O H s e s' I hq | ok fl=> cases fl with
  | ret u=>exact I.after hq | next=>exact rx! | brk=>exact rx! | cont=>exact rx!
theorem zjG(F:zio aV! X.w X.K fG! fm! CX k f fd ps sp) (hr:km k X.A) (hg:fj!) (hm:X.mg x=b! ft!) (hk:o2! X.K=d!) (hb:kF! X.K ps ds) (hd:xt bJ ds) (hx:ld! X E) (ha:PA X (e::es) t) (aG:cp! (x==cP!)) (he:B! (aw! (e::es)=d1!::iD!)) (au:eg! es (·.1)): W! (dw! x p (e::es)) (znn sp bJ E t):=by
 intro ae s O H Q I h;refine _ar (z4v I hg hm ?_ aG);refine _dL (h₀:=X.base) I.ok.mod.kin hk (thn (ha pos ae s O H _ I h) λus s1 ⟨vs,H1,I1,r,q⟩=>as! I1.kIn ?_) he au;exact znu F hr hb hd hx I1 r q
end
section
variable {P:Program}{w:World}{K:W.Frag}{mg:Str->aU!}{base:Heap}
theorem Fun.okH{x qual:Str}{st:Stmt}{f:Addr}{fd:FuncData}{N ps:aq!}{k:Nat}{sp:Sp}(F:Fun K x av! st f fd)(S:S! N ps st)(len:∀vs H Q E,sp vs H Q E->mI!) (aZ:∀(aj:Value)(A:Around)(outer:List Env)(s:Shared)(H:Hp)(vs:List V)(Q:VK)(E:XK),km k (kx! av! dc! f aj)->sp vs H Q E-> ∃t,PSs (z5B CX0 P w K mg R! N av! dc! f aj A au! s H E).nox ic! t/\t {nx:=λ_ H'=>Q aA! H',rt:=Q} (pf! N) H):zio P w K mg R! CX0 (k+1) f fd ps sp:=by
 obtain⟨oc,od,kV,aE,pm,an,aj,ct,cC,rfl,lk,bz⟩:=F.ex;refine zpo lk bz S len λA outer s H vs Q E hr cD=>?_;obtain⟨t,h,q⟩:=aZ aj A au! s H vs Q E hr cD;exact a3! t h.nox q
end
end L2
namespace Dd
open L2
def zse(P:Program)(w:World)(K:W.Frag)(mg:Str->aU!)(base:Heap)(CX:CXT)(x:Str)(n:Nat)(M:Mir):g!:= ∃f fd ps,zio P w K mg R! CX n f fd ps (zjT ⟨mg,K⟩ M)/\kF! K ps []/\o2! K=d!/\fx! x ft!
section
variable {X:Cx}{E:XK}{e:Expr}{es:aI!}{pos:Pos}{CX:CXT}
theorem zoK{x:Str} {p:Pos} {n:Nat} {M:Mir} {f:FA} (F:zse aV! X.w X.K fG! fm! CX x n M) (hr:km n X.A) (hx:ld! X E) (hg:fj!) (ha:RA X E (e::es) f) (aG:cp! (x==cP!)) (he:B! (aw! (e::es)=d1!::iD!)) (au:eg! es (·.1)):Y! (dw! x p (e::es)) (ze M f):=by
 obtain⟨fa,fd,ps,F,hb,hk,hm⟩:=F;refine yp (zjG F hr hg hm hk hb cD! hx ha aG he au) λO H Q ⟨Y,ρ,s,r,en,h⟩=>?_;refine jd (k:=nu! (M xs s1)) r en h _ λvs H2 Y2 s2 ds r2 aY ax ag h3=>?_;rw[_aL];exact⟨Y2,s2,ds,r2,ax,h3⟩
end
section
variable {P:Program}{w:World}{K:W.Frag}{mg:Str->aU!}{base:Heap}
theorem zo1{x qual:Str}{st:Stmt}{f:Addr}{fd:FuncData}{N ps:aq!}{k n:Nat}{fs:FS}(F:Fun K x av! st f fd)(hm:fx! x ft!)(hb:kF! K ps [])(S:S! N ps st)(hn:a5!=n) (body:ss! (km k (kx! av! dc! f aj)) (RSs (z5B CX0 P w K mg R! N av! dc! f aj A au! s H E).nox E0 ic! fs)):zse P w K mg R! CX0 x (k+1) (Mof N n fs):=by
 subst hn;refine⟨f,fd,ps,F.okH S (qO! ?_) (λaj A outer s H vs Q E hr h=>?_),hb,F.kp,hm⟩
 ·obtain⟨Y,s,ds,_,dn,h⟩:=h;unfold Mof at h;split at h;·rename_i e;rw[dn.length];exact e
  ·exact h.elim
 ·obtain⟨Y,cn,ds,r,dn,h⟩:=h;refine⟨_,body aj A au! s H E hr,Y,zv N ds,cn,r,z1I dn,?_⟩;unfold Mof at h;split at h
  ·split at h
   ·rename_i d s' e;rw[e];intro fv H' Y' stp fd;cases fv with
    | rt v=>exact h v H' Y' stp fd | _=>exact b7! (show False from fd)
   ·rename_i ρ s' e;rw[e];intro fv H' Y' stp fd;cases fv with
    | nx v=>exact h aA! H' Y' stp rfl | _=>exact b7! (show False from fd)
   ·exact h.elim
  ·exact h.elim
end
theorem z57: mk! X gP! (∃(a C:Addr)(y:V)(b:Bool),xs=[ag!,y]/\ct! (zm4 C a)/\PySem.ExcCls X.K C/\(∀c,wQ y c->na! X.K ap! c=b! b)/\Q (.bl b) H):=by
 intro ae s O H xs us Q I r h;obtain⟨a,C,y,b,rfl,ha,hc,hk,q⟩:=h;obtain⟨u,v,rfl,ru,rv⟩:=vals2 r;cases ru;obtain⟨⟨o,vs,h1,h2,_⟩,_⟩:=(g9! a ha);exact lt! (PySem.zkb hc) (cB! h1 h2) (hk v rv) (λz=>nomatch z) (λtk=>br! (.bl b) H iz! q)
structure zeo(mg:Gm)(rs cs:aq!):g! where
 cls:∀c∈rs,∀C,mg.m c=b! ap!->PySem.ExcCls ns! C
 has:∀d∈cs,∃D,mg.m d=b! (y! D)
 one:∀c∈rs,∀d∈cs,∀C D,mg.m c=b! ap!->mg.m d=b! (y! D)->na! ns! ap! (y! D)=b! (c==d)
 val:∀c∈rs,∀C,mg.m c=b! ap!->na! ns! ap! (ar! iH!)=b! d!
def ztt(rs:aq!)(T:Str):D->bi!
 | .exc c,s=>ae! (c∈rs) (cb! (c==T)) | _,_=>.no
noncomputable def zaP(rs:aq!)(T:Str)(f:FE):FE:=e2! (eh! (ztt rs T d s1))
def ztv(rs:aq!):D->bi!
 | .exc c,s=>ae! (c∈rs) cA! | _,_=>.no
noncomputable def zvy(rs:aq!)(f:FE):FE:=e2! (eh! (ztv rs d s1))
section
variable {X:Cx}{E:XK}{e:Expr}{pos:Pos}
theorem z1x{p p2:Pos} (FM:zeo M! rs cs)(hT:T∈cs)(hg:iE! gP!)(hm:dS! gP!)(cK:iE! T)(he:fA! f) (hd:cp! (T==cP!)) (hs:B! (aw! [e,fP! T]=d1!::aw! [fP! T]))(au:eg! [fP! T] (·.1)):Y! (dw! gP! p [e,fP! T]) (zaP rs T f):=by
 obtain⟨D,hD⟩:=FM.has T hT;exact yp (z3E z57 hg hm (by decide +kernel) (wV he (wV (z7u cK hD (show wQ (y! D) (y! D) from rfl) hd) z1e (zr ..)) hs) (by decide) (by decide) hs au) λO H Q ⟨Y,ρ,s,r,en,h⟩=>by
  refine yR (k:=kV! (ztt rs T d s1)) r en h _ λv H1 Y1 s1 d r1 av dn stp h1=>?_;unfold ztt at h1;split at h1
  ·rename_i c;split at h1
   ·rename_i hc;obtain⟨a,C,rfl,hC,hH⟩:=dn;exact⟨a,C,y! D,c==T,rfl,hH,FM.cls c hc C hC,λz hz=>by cases hz;exact FM.one c hc T hT C D hC hD,okR.here (b:=V.bl (c==T)) h1 r1 wN⟩
   ·exact h1.elim
  ·exact h1.elim
theorem zsJ{p p2:Pos} (FM:zeo M! rs cs)(hg:iE! gP!)(hm:dS! gP!)(cK:iE! iH!)(cj:dS! iH!)(he:fA! f) (hs:B! (aw! [e,fP! iH!]=d1!::aw! [fP! iH!]))(au:eg! [fP! iH!] (·.1)):Y! (dw! gP! p [e,fP! iH!]) (zvy rs f):= yp (z3E z57 hg hm (by decide +kernel) (wV he (wV (zaf cK cj (by decide +kernel) (show wQ (.ty iH!) (ar! iH!) from rfl)) z1e (zr ..)) hs) (by decide) (by decide) hs au) λO H Q ⟨Y,ρ,s,r,en,h⟩=>by
  refine yR (k:=kV! (ztv rs d s1)) r en h _ λv H1 Y1 s1 d r1 av dn stp h1=>?_;unfold ztv at h1;split at h1
  ·rename_i c;split at h1
   ·rename_i hc;obtain⟨a,C,rfl,hC,hH⟩:=dn;exact⟨a,C,.ty iH!,d!,rfl,hH,FM.cls c hc C hC,λz hz=>by cases hz;exact FM.val c hc C hC,okR.here (b:=V.bl d!) h1 r1 wN⟩
   ·exact h1.elim
  ·exact h1.elim
end
section
variable {X:Cx}{E:XK}{e a b:Expr}{es:aI!}{pos:Pos}{CX:CXT}
theorem ztz(hg:fj!)(hm:X.mg x=b! (y! g))(hd:cp! (x==cP!)):Y! (fq! p) (eC (.fn x)):= yp (z7u hg hm (show wQ (y! g) (y! g) from rfl) hd) λO H Q ⟨Y,ρ,s,r,en,h⟩=>g5! h (aH! g hm)
theorem zrw(F:Has aV! X.w X.K fG! fm! CX x n M)(hg:fj!)(hd:cp! (x==cP!)):Y! (fq! p) (eC (.fn x)):=by
 obtain⟨f,_,_,_,_,_,hm⟩:=F;exact ztz hg hm hd
noncomputable def ziL(g:FE)(Ms:bU! Mir)(f:FA):FE:=ca! (g ρ s) (λd s1=>match d with
 | .fn y=>match rz! with
  | some M=>D! (f ρ s1) (λxs s2=>M xs s2) | none=>.no
 | _=>.no)
theorem zp7{Ms:bU! Mir} (F:∀y M,rz!=b! M->Has aV! X.w X.K fG! fm! CX y n M) (hr:z2G n X.A) (ig:ld! X E) (hg:Y! (rO! b sp) g) (ha:RA X E (e::es) f) (he:B! (aw! (e::es)=d1!::iD!)) (au:eg! es (·.1)):Y! (fJ! (rO! b sp) (e::es) [] pos) (ziL g Ms f):=by
 intro ae s O H Q I ⟨Y,ρ,st,r,en,h⟩;refine _a (thn (hg ae s O H _ I ⟨Y,ρ,st,r,en,okR.bind (Dn:=ll!) h⟩) λu s1 ⟨v,H1,I1,r1,Y1,nR,d,stp,dn,h1⟩=>?_);split at h1
 ·rename_i y;split at h1
  ·rename_i M hM;obtain⟨gg,rfl,cU⟩:=dn;cases r1;obtain⟨fa,fd,ps,Fk,hb,hk,hm⟩:=F y M hM;have e0:gg=fa:=by cases cU.symm.trans hm;rfl
   subst e0;exact _dL (h₀:=X.base) I1.ok.mod.kin hk (thn (ha pos ae s1 O H1 (λvs H2=>zjT M! M (vs++[]) H2 Q E) I1 (jd (k:=nu! (M xs s1)) stp.rep it! h1 _ λvs H2 Y2 s2 ds r2 aY ax ag h3=>by
    rw[_aL];exact⟨Y2,s2,ds,r2,ax,h3⟩)) λus s2 ⟨vs,H2,I2,r2,q⟩=>as! I2.kIn (zfn Fk hr hb cD! ig I2 r2 q)) he au
  ·exact h1.elim
 ·exact h1.elim
end
end Dd
namespace PySem
open PySem.AutoSeq1 (wpAny_loadPart')
open MeetsSeq MeetsSeq2 SeqAt
theorem zbc(l:Addr) (items:cF!) (n:Nat) (dd:oY!) (sl:Array aU!) (x:Int) (u:Tok) (h2:2<=x) (hx:x<2 ^ 63) (dg:items.isEmpty=q!) (hc:¬ j! hR!*x > (2 ^ 63-1) / 8) (ht:Builtin.Tuple.tupleTooMany (j! hR!*x)=q!) (hs:((mv! ou! hm!).foldl (· ++ ·) #[]).size<=aY!): Meets (Builtin.«tuple.__mul__» (dT! [eT!,bE! x u])) (λA R s=>f3! l ({cls:=dR!,dict:=dd,data:=.seq hm! n,slots:=sl})/\R (.ok (.ret f4!)) {s with heap:=ij! ({cls:=dR!,data:=.seq ((mv! ou! hm!).foldl (· ++ ·) #[])})}):= rt! (by
  obtain⟨hl,h⟩:=h;have e1:(x==1)=q!:=by simp;lia
  have e2:jv! x 0=q!:=by simp;lia
  wp_walk using _av hl;rw[_o (by simp;lia)];wp_walk using _av hl;rw[_o hc];wp_walk;exact aH! _ h)
theorem z9R(l:Addr)(items:cF!)(n:Nat)(dd:oY!)(sl:Array aU!)(u:Tok): Meets (Builtin.«tuple.__mul__» (dT! [eT!,bE! 1 u])) (λA R s=>f3! l ({cls:=dR!,dict:=dd,data:=.seq hm! n,slots:=sl})/\R (.ok (.ret eT!)) s):= rt! (by
  obtain⟨hl,h⟩:=h;wp_walk using _av hl;exact aH! _ h)
theorem z0I:fillsNumberSlot dR! "mul"=mQ!:= fillsNumberSlot_seq (id:="tuple.__mul__") (r:=h4! "tuple.__rmul__") _cg.lookup (by decide +kernel) F.slot_tuple_rmul.lookup (by decide +kernel)
theorem z51:seqRepeat? dR!=d3! (h4! "tuple.__mul__"):=by
 unfold seqRepeat?;rw[seqSlot_of (T:=c2!) (name:="__mul__") (id:="tuple.__mul__") _cg.lookup (by decide +kernel),seqSlot_of (T:=c2!) (name:="__rmul__") (id:="tuple.__rmul__") F.slot_tuple_rmul.lookup (by decide +kernel)];rfl
theorem kA(a:Int)(t:Tok)(l:Addr)(items:cF!)(n:Nat)(dd:oY!)(sl:Array aU!): Meets (Builtin.«int.__rmul__» (dT! [ci! a,eT!])) (λ_ R s=>f3! l ({cls:=dR!,dict:=dd,data:=.seq hm! n,slots:=sl})/\R (.ok (.ret Value.notImplemented)) s):= rt! (by obtain⟨hl,h⟩:=h;wp_walk;exact aH! _ h)
end PySem
namespace L2
section
variable {X:Cx}
def zut:R2:=hQ! (∃l k xs,x=eT!/\y=c! k/\H l=b! af!/\1<=k/\a4! xs/\w!*d4!<=aY!/\ ((k=1->Q eT! H)/\∀p,gN!->Q cg! (fV! (n! (hW! d4! xs)))))
theorem zp3:nO! zut:=by
 intro ae s O H x y v u Q I rx ry h;obtain⟨l,k,xs,rfl,rfl,hH,h1,dg,hz,q1,q⟩:=h;cases rx;obtain⟨t,rfl⟩:=ry;obtain⟨z,af,r,o,e,c1,d1,n,w1⟩:=(g9! l hH);obtain⟨cls,dd,data,sl⟩:=o;subst c1 d1 w1;have hl:w!=kd!:=by have:=r.length;lia
 have hp:0<kd!:=by rw[<- hl];exact _bN.mpr dg
 have hk:eM! d4!=k:=by lia
 have ap:kd!*d4!<=aY!:=by rw[<- hl];exact hz
 have nS:d4!<=aY!:=_G (Nat.le_mul_of_pos_left _ hp) ap;have hS:aY!<=(2 ^ 63-1) / 8:=by decide
 have nT:k<2 ^ 63:=by lia
 have hm:eM! iS!*k=(kd!*d4!:Nat):=by rw[_t,Int.natCast_mul,hk]
 by_cases ho:k=1
 ·subst ho;exact _bI (T:=c2!) (U:=eE!) (by decide) (ce! e) (λs'=>_cd s' 1 t) z0I F.fills_int_mul _bq z51 _dv.lookup (_bh _bq (_cd s 1 t) _dw (_c9 _ _) (kA 1 t l fE! n _ sl) ⟨e,rfl,ce! e,_bh _cg (ce! e) F.entry_tuple_mul (F.args_tuple_mul_2 _ _) (z9R l fE! n _ sl t) ⟨e,br! eT! H I (q1 rfl)⟩⟩)
 ·have fF:List.foldl (λx1 x2=>x1++x2) #[] (mv! d4! fE!)=(mv! d4! af).flatten.toArray:=by
   have:=foldl_rep af d4! [];exact this
  refine _bI (T:=c2!) (U:=eE!) (by decide) (ce! e) (λs'=>_cd s' k t) z0I F.fills_int_mul _bq z51 _dv.lookup (_bh _bq (_cd s k t) _dw (_c9 _ _) (kA k t l fE! n _ sl) ⟨e,rfl,ce! e,_bh _cg (ce! e) F.entry_tuple_mul (F.args_tuple_mul_2 _ _) (zbc l fE! n _ sl k t (by lia) nT (by cases af with | nil=>simp at hp | cons a b=>rfl) (by lia) (by exact _U (by lia)) (by rw[fF,_t,len_rep,_dO];exact ap)) ⟨e,?_⟩⟩);rw[fF];exact⟨y! _,_,I.laid (o:=n! (hW! d4! xs)) (t':=s.toks) (λb u q=>_i _ q) am! ⟨(by rw[len_rep,_dO];exact hz),_,r.rep d4!,zgm.new _ _⟩,rfl,q _ I.fresh⟩
end
end L2
namespace Dd
open L2
section
variable {X:Cx}{E:XK}
def zh8:D->D->bi!
 | .tup xs,.int k,s=>ae! (1<=k/\a4! xs/\w!*d4!<=cap) (a7! (hW! d4! xs)) | _,_,_=>.no
theorem zrF:∃r,nO! r/\cZ! zh8:=by
 refine bQ! zp3 ?_;intro H Y s d1 d2 v1 v2 Q r h1 h2 h;unfold zh8 at h;split at h
 ·rename_i xs k;cases yy h2;split at h
  ·rename_i hl;have iB:=h1;obtain⟨a,vs,rfl,e1,e2⟩:=h1;refine⟨a,k,vs,rfl,rfl,e1,hl.1,λz=>?_,by rw[e2.length];exact z0D hl.2.2,λhk=>?_,z4T r h (e2.flat_rep _)⟩
   ·subst z;exact hl.2.1 (_aY.mp (by simpa using e2.length.symm))
   ·subst hk;rw[(show hW! (j! 1).toNat xs=xs from by simp)]at h;exact e9! iB
  ·exact h.elim
 ·exact h.elim
@[simp] theorem znh(xs:x!)(k:Int)(s:Sto):zh8 af! (c! k) s=ae! (1<=k/\a4! xs/\w!*d4!<=cap) (a7! (hW! d4! xs)):=V!
end
end Dd
namespace L2
section
variable {X:Cx}{pos:Pos}
theorem Inv.far{O:St} (I:N!):(at!==sysModules)=q!:=by
 obtain⟨o,es,ep,h,_⟩:=I.mod.glob.keeps I.bk;have e1:1<=mp!:=by decide
 exact beq_false_of_ne (_cE (_bj e1 (_s h)))
def ztl:TE:=λ_ H Q=>∀p,gN!->Q cg! (fV! (.dK []))
theorem zo0:W! (.Dict [] [] pos) ztl:=by
 refine λae s O H Q I hq=>wpAny_Dict_empty ⟨f4!,cf! at! (.dK []),I.laid (o:=.dK []) (t':=s.toks) (λb u e=>_i _ e) am! ⟨gL!,I.far,[],?_,Heap.DictOf.new _⟩,rfl,hq _ (mF! _)⟩;constructor
end
end L2
namespace Dd
open L2
section
variable {X:Cx}{E:XK}{pos:Pos}
theorem zpB:Y! (.Dict [] [] pos) (eC .dct):= yp zo0 λO H Q ⟨Y,ρ,s,r,en,h⟩=>bs! (by exact h _ _ _ (uh.lay (o:=.dK []) r hp (by intro _ z;cases z)) (by exact aH! p yA))
end
structure XOk(K:W.Frag)(C:Addr):g! where
 exc:rq! K C bmV=d!
 cls:PySem.ExcCls K C
 val:na! K ap! (ar! iH!)=b! d!
theorem zc1{K:W.Frag} (h:z7A K C=d!):∃d cd sl,m8! C=b! ⟨ar! "type",d,.cls cd,sl⟩:=by
 unfold z7A at h;split at h
 ·rename_i t d cd sl e;have:=jG! h;subst this;exact ck! _ _ _ e
 ·cases h
theorem jA{K:W.Frag} (h:z9M K x=d!):∃C,gx! K x=b! (b! ap!)/\XOk K C:=by
 unfold z9M at h;split at h
 ·rename_i C e;simp only[_S]at h;obtain⟨h1,h2,h3,h4,h5,h6,h7,h8⟩:=h;exact⟨C,e,h1,⟨jG! h2,jG! h3,jG! h4,jG! h5,jG! h6,zc1 h7⟩,jG! h8⟩
 ·cases h
section
variable {K:W.Frag}{mg:Str->aU!}(G:∀(x:Str)(v:Value),gx! K x=b! bV!->fx! x v)
include G
theorem z9N(h:z9M K x=d!):zpa K mg x:=by
 obtain⟨C,e,o⟩:=jA h;exact⟨C,G x _ e,o.exc⟩
theorem zh7(hr:∀x∈rs,z9M K x=d!)(hc:∀y∈cs,z9M K y=d!)(h:∀x∈rs,∀y∈cs,(z8W K x y).map (·.2)=b! (b! (x==y))):zeo ⟨mg,K⟩ rs cs:=by
 have un:∀x C D,gx! K x=b! (b! (y! D))->fx! x ap!->C=D:=λx C D e m=>by
  have:=G x _ e;rw[m]at this;cases this;rfl
 refine⟨λc cQ C m=>?_,il! ?_,λc cQ d hd C D mC mD=>?_,λc cQ C m=>?_⟩
 ·obtain⟨D,e,o⟩:=jA (hr c cQ);cases un c C D e m;exact o.cls
 ·obtain⟨D,e,o⟩:=jA (hc d hd);exact⟨D,G d _ e⟩
 ·obtain⟨C',e1,_⟩:=jA (hr c cQ);obtain⟨D',e2,_⟩:=jA (hc d hd);cases un c C C' e1 mC;cases un d D D' e2 mD;have q:=h c cQ d hd;unfold z8W at q;rw[e1,e2]at q;simpa using q
 ·obtain⟨D,e,o⟩:=jA (hr c cQ);cases un c C D e m;exact o.val
theorem zoR(hx:z9M K x=d!)(hy:z9M K y=d!)(h:(z8W K x y).map (·.1)=b! (b! d!)):zth K mg x y:=by
 obtain⟨C,e1,o1⟩:=jA hx;obtain⟨D,e2,o2⟩:=jA hy;refine⟨C,D,G x _ e1,G y _ e2,o1.exc,o2.exc,λh₀ X=>?_⟩;unfold z8W at h;rw[e1,e2]at h;have hm:W.mroIn K C (y! D)=b! d!:=by simpa using h
 obtain @⟨bm,_,_,_,_,_,_,_,_,_,_,_,_,_,_,_,_,hC,_⟩:=ziQ X o1.exc;refine as! hC ?_;obtain⟨d',nU,iS,hl⟩:=o1.cls.ty;have h2:=X _ _ hl;rw[hC]at h2;unfold W.mroIn W.clsIn at hm;rw[hl]at hm;simp only[_O]at hm;split at hm;·cases hm
 ·simp only[_y,Obj.mk.injEq,Data.cls.injEq]at h2;obtain⟨_,_,h3,_⟩:=h2;rw[(show nU.mro=lA! C::bm from by rw[<- h3])]at hm;simpa using hm
end
theorem zbr{K:W.Frag}(e:zeA q K=jt! q)(x:Str)(hx:x∈q.xs):z9M K x=d!:=z9v (_au (λz=>z.2.2.2.2.2.1) e) x hx
theorem zrV{K:W.Frag}(e:zeA q K=jt! q)(x y:Str)(b:Bool)(hx:((x,y),b)∈q.ps):z8W K x y=b! (b! b,b! b):=z9v (_au (λz=>z.2.2.2.2.2.2) e) ((x,y),b) hx
theorem zuu(r:km k A):km k (A.mark e):=a3! r.dp r.un r.gd
def LeS(f g:FS):g!:=∀ ρ s a s',ay!=bz! a->g ρ s=bz! a
def LeM(M N:Mir):g!:=∀ds s d s',M ds s=bz! d->N ds s=bz! d
theorem LeS.rfl: LeS f f:=λ_ _ _ _ h=>h
theorem LeS.no(h:LeS f g):LeS f (ki g):=qU! (by rw[zo7,h ρ s a s' e])
theorem LeS.calm: LeS f (ki f):=LeS.rfl.no
theorem LeS.fNo: LeS fNo g:=λ_ _ _ _ h=>by cases h
theorem LeM.mof(h:LeS f g):LeM (Mof N n f) (kU N n g):=λds s d s' e=>by
 unfold Mof at e;unfold kU;split at e
 ·rename_i hl;rw[_g hl];split at e
  ·rename_i d' s1 e1;rw[h _ _ _ _ e1];exact e
  ·rename_i ρ s1 e1;rw[h _ _ _ _ e1];exact e
  ·cases e
 ·cases e
def LeE(f g:FE):g!:=∀ ρ s a s',ay!=bz! a->g ρ s=bz! a
theorem z33{r:R α} {b:β} (h:r.bind k=bz! b):∃a s1,r=I! a/\k a s1=bz! b:=by cases r with
 | ok a s=>exact⟨a,s,Eq.refl _,h⟩ | ex c s=>cases h | no=>cases h
theorem LeS.seq(h:LeS f f')(h2:LeS g g'):LeS (zy f g) (zy f' g'):=qU! (by
 obtain⟨fl,s1,e1,e2⟩:=z33 e;show D! (f' ρ s) _=_;rw[h _ _ _ _ e1];cases fl with
 | nx ρ'=>exact h2 _ _ _ _ e2 | _=>exact e2)
theorem LeS.drop(h:LeE f f'):LeS (wq f) (wq f'):=qU! (by
 obtain⟨d,s1,e1,e2⟩:=z33 e;show D! (f' ρ s) _=_;rw[h _ _ _ _ e1];exact e2)
theorem LeS.set(h:LeE f f'):LeS (yw i f) (yw i f'):=qU! (by
 obtain⟨d,s1,e1,e2⟩:=z33 e;show D! (f' ρ s) _=_;rw[h _ _ _ _ e1];exact e2)
theorem LeE.call(h:LeM M M'):LeE (ze M f) (ze M' f):=qU! (by
 obtain⟨d,s1,e1,e2⟩:=z33 e;show ks! _=_;rw[e1];exact h _ _ _ _ e2)
theorem LeS.if_(h:LeS f f')(h2:LeS g g'):LeS (fIf t f g) (fIf t f' g'):=qU! (by
 obtain⟨d,s1,e1,e2⟩:=z33 e;show D! (t ρ s) _=_;rw[e1];cases d with
 | true=>exact h _ _ _ _ e2 | false=>exact h2 _ _ _ _ e2)
theorem LeM.ok(h:LeM M N) (e:M ds s=bz! d):N ds s=bz! d:=h ds s d s' e
end Dd
namespace Dd
open L2
open PySem.W
def kev{α:bD!}(n:Nat)(lt:Nat->ln!):KasT α->bq! α
 | .ret a=>b! a | .ask i j k=>ir! (i<n/\j<n) (ed! n (k (lt i j)))
theorem zfa{α:bD!}{n:Nat}{lt:Nat->ln!}{d9:Nat->Nat->(cj!->eL!)->eL!}{Q:α->eL!}{s:Shared}(hc:∀i j C,i<n->j<n->C (lt i j) s->d9 i j C s): ∀(t:KasT α)(a:α),ed! n t=b! a->Q a s->t.kasWp d9 Q s
 | .ret a,b,e,h=>by
  simp only[kev,_y]at e;subst e;exact h | .ask i j k,b,e,h=>by
  unfold kev at e;split at e
  ·rename_i aJ;exact hc i j _ aJ.1 aJ.2 (zfa hc (k (lt i j)) b e h)
  ·cases e
noncomputable def lexLt(p q:Int×Int):Bool:=ak! p.1 q.1 (ak! p.2 q.2 q! (eu! p.2 q.2)) (eu! p.1 q.1)
def zfb(h:Heap)(v:Value)(p:Int×Int):g!:=∃a o n t u,v=ag!/\cK! a/\gp!=dR!/\ih!=.seq #[ci! p.1,bE! p.2 u] n
inductive wI (h:Heap):bZ!->jk! Int->g! | nil:wI h [] [] | cons {v p vs ps}:zfb h v p->wI h vs ps->wI h (v::vs) (p::ps)
theorem wI.length{h:Heap}:∀{vs ps},wI h vs ps->mI!:=λr=>by induction r with
 | nil=>rfl | cons _ _ ih=>exact _au (· + 1) ih
theorem wI.at_{h:Heap}:∀{vs ps},wI h vs ps->∀i,i<a5!->zfb h (vs.getD i ab!) (gA! (0,0)):=λr=>by induction r with
 | nil=>exact eH! (bO! hi (Nat.not_lt_zero i)) | cons p _ ih=>
  intro i hi;cases i with
  | zero=>exact p | succ i=>exact ih i (_b8 hi)
theorem wI.mono{h h':Heap}(k:bJ! (cK! b->dK! b)):∀{vs ps},wI h vs ps->wI h' vs ps:=λr=>by induction r with
 | nil=>exact cD! | cons p _ ih=>
  refine eX! ?_ ih;obtain⟨a,o,n,t,u,e,g,q⟩:=p;exact⟨a,o,n,t,u,e,k _ _ g,q⟩
theorem wI.tups{h:Heap}:∀{vs ps},wI h vs ps->∃fs,KatTups h vs fs/\fs.length=a5!/\∀v∈fs,∃i t,v=ci! i:=λr=>by induction r with
 | nil=>exact fO! [] KatTups.nil (λv hv=>nomatch hv) | cons p _ ih=>
  obtain⟨a,o,n,t,u,rfl,g,c,d⟩:=p;obtain⟨fs,k,l,m⟩:=ih;exact⟨_,KatTups.cons g c d rfl k,_au (· + 1) l,_cr.mpr ⟨ce! _,m⟩⟩
section
variable {prog:Program}{w:World}{A:Around}{E:b1!}{s:Shared}
theorem znt{v u:Value}{p q:Int×Int}{C:cj!->eL!}(hv:zfb L! v p)(hu:zfb L! u q)(h:C (ov! p q) s):cG! w A (keyLt' ma! v u) C E s:=by
 obtain⟨a,o,n,t,t',rfl,g,c,d⟩:=hv;obtain⟨b,o',n',x,x',rfl,g',c',d'⟩:=hu;refine kat_lt g d g' d' (kat_cons (_cc (kat_go (λe=>kat_yes (kat_cons (_cc (kat_go (λe2=>kat_yes (kat_nil ?_)) λe2=>kat_no ?_)))) λe=>kat_no ?_)))
 ·have e1:p.1=q.1:=by simpa using e
  have e3:p.2=q.2:=by simpa using e2
  simpa[lexLt,e1,e3] using h
 ·have e1:p.1=q.1:=by simpa using e
  have e3:¬ p.2=q.2:=by simpa using e2
  refine kat_one _ _ (PyProof.Rows.lt_int ?_);show C _ s;simpa[lexLt,e1,e3] using h
 ·have e1:¬ p.1=q.1:=by simpa using e
  have hb:(d!&&(eM! 0==0))=d!:=rfl;rw[hb];refine oneLt_int ?_;simpa[lexLt,e1] using h
theorem zfO{vs:bZ!}{ps:jk! Int}{Q:SortKind->eL!}(hp:wI L! vs ps)(h0:0<a5!)(h:Q ma! s):cG! w A (keyKind' e0!) Q E s:=by
 obtain⟨fs,k,l,m⟩:=hp.tups;refine kat_kind (T:=ar! eE!) k (by rw[l];exact h0) (λv hv=>?_) rfl h;obtain⟨i,t,rfl⟩:=m v hv;exact Looks.of_pure rfl
noncomputable def z8h(vs:bZ!)(p:fM!):cF!:=List.toArray (ko! (vs.getD i Value.none))
theorem zcJ{a:Addr} {vs:bZ!} {ps:jk! Int} {n:Nat} {p:fM!} {P:PySem.Fin->eL!} (ho:f3! a (mH! n)) (hp:∀h',(bJ! (b≠a->dx! b->dK! b))->wI h' vs ps) (h2:2<=dN!) (fG:dN!<64) (he:rE! (λi j=>ov! (gA! (0,0)) (o9! (0,0))) rZ!=b! p) (h:P (.done (.ret ab!)) {s with heap:=sortedHeap L! a vs (z8h vs p)}):cG! w A (Builtin.«list.sort» (dT! [ag!])) P E s:=by
 have ha:a<at!:=_s ho;have ai:dN!<=aY!:=by rw[sizeLine_eq];lia
 have bI:mI!:=t! (hp L! λ_ _ _ e=>e);obtain⟨e1,g1⟩:∃e1,fi! (l2! a (bk! (#[]:cF!))) a (k2! #[] e1):=f9! (get?_update_seq ho (bk! #[]));have g2:fi! (dg! (dg! (l2! a (bk! (#[]:cF!))) (o7! 0)) (k2! #[] 0)) a (k2! #[] e1):=_i _ (_i _ g1);have ec:wI (dg! (dg! (l2! a (bk! (#[]:cF!))) (o7! 0)) (k2! #[] 0)) vs ps:=hp _ (kR! (_i _ (_i _ (aJ! ((_bM L! a (sT! (bk! (#[]:cF!)))).2 b hb) e))));rw[list_sort_plain];refine _a (listItems_at ho rfl (_a (_cn ho rfl (_a (_dc g1 rfl (_a (_cT (_a (_dr (_aT ?_) gL!)) ai)))) (by rw[_t];exact ai) gL!)));have bO:¬ vs.toArray.size<2:=by rw[_t];lia
 dsimp only;rw[_o bO,_o bO];refine _a (zfO (s:={s with heap:=dg! (dg! (l2! a (bk! (#[]:cF!))) (o7! 0)) (k2! #[] 0)}) ec (by lia) ?_);refine _a (le! (kat_run (ks:=vs) (vs:=vs) (G:=λq s'=>q=p/\s'={s with heap:=dg! (dg! (l2! a (bk! (#[]:cF!))) (o7! 0)) (k2! #[] 0)}) (Q:=λay s'=>∃q:Array Nat,q.size=dN!/\px! ay=q.map (qV! kk!)/\failedOf ay=a!/\q=p/\s'={s with heap:=dg! (dg! (l2! a (bk! (#[]:cF!))) (o7! 0)) (k2! #[] 0)}) rfl h2 fG (λq ay s' a1 a2 a3 a4=>⟨q,a1,a2,a3,a4⟩) (zfa (n:=ps.length) (λi j C hi hj hC=>?_) _ p (by rw[bI];exact he) (cl! rfl))) ?_ z);·exact znt (ec.at_ i hi) (ec.at_ j hj) hC
 rintro⟨⟨⟩,ay⟩ s' ⟨q,hq,iC,hf,rfl,rfl⟩;dsimp only;have fH:=kat_snds (ks:=vs) (vs:=vs) rfl iC;rw[fH,hf];refine _a (_dc g2 rfl (_a (_cn g2 rfl ?_ gL! (by rw[_t,_z,_aZ,hq];exact _bx ai))));simp only[_dd,_cV,_aV];exact _m h
theorem zgE{l:Addr} {vs:bZ!} {ps:jk! Int} {p:fM!} {Q:b1!} (hl:s.heap.IsList l e0!) (hp:wI L! vs ps) (h2:2<=dN!) (fG:dN!<64) (he:rE! (λi j=>ov! (gA! (0,0)) (o9! (0,0))) rZ!=b! p) (h:Q (y! dZ!) {s with heap:=sN! vs (z8h vs p)}): cG! w A (p8! ly! [eT!]) Q E s:=by
 have ai:dN!<=aY!:=by rw[sizeLine_eq];lia
 refine Calls.call_function_entry kind_sorted plain_sorted entry_sorted (args_sorted1 _) ?_;unfold Builtin.«sorted»;refine _a (m:=checkCount ly! 1 1 _) (_m (_a (collect_list hl (_a (_dr ?_ (by rw[sizeLine_eq];lia))) (by rw[sizeLine_eq];lia))));have sz:eo! (oZ! (oV! #[] 0) (· ++ e0!))=dZ!:=by rw[Heap.size_update,size_push']
 have g:fi! (dg! (oZ! (oV! #[] 0) (· ++ e0!)) (mH! 0)) dZ! (mH! 0):=by
  rw[<- sz];exact hh!
 have keep:bJ! (dx! b->fi! (dg! (oZ! (oV! #[] 0) (· ++ e0!)) (mH! 0)) b o/\b≠dZ!):=λb o q=>by
  have lt:b<at!:=_s q;refine⟨?_,_E (_aX lt)⟩;rw[_b9 _ _ _ (by rw[sz];exact _E (_aX lt)),Heap.get?_update_ne _ _ _ _ (_E lt),_b9 _ _ _ (_E lt)];exact q
 show cG! w _ _ _ _ ({s with heap:=dg! (oZ! (oV! #[] 0) (· ++ e0!)) (mH! 0)});rw[sz];exact _a (_aT (_ax slot_list_sort (ce! g) entry_list_sort (zcJ g (λh' k=>hp.mono λb o q=>k b o (keep b o q).2 (keep b o q).1) h2 fG he (aH! _ (_m (bQ! rfl h)))) (args_list_sort _)))
end
section
variable {X:Cx}{E:XK}
def z4S:x!->bq! (jk! Int)
 | []=>b! [] | .tup [.int a,.int b]::r=>(z4S r).map λt=>(a,b)::t | _=>none
def zmV(K:W.Frag):aG!->Hp->eU!:=λxs H Q=>∃(l:Addr)(ys:List V)(ps:List (Int×Int))(p:Array Nat),xs=[eT!]/\SqL K H l ys/\cO!=a5!/\2<=cO!/\cO!<64/\ (∀i,i<a5!->∃a,al! ys ag!/\SqT K H a (cU! (gA! (0,0)).1 (gA! (0,0)).2))/\ rE! (λi j=>ov! (gA! (0,0)) (o9! (0,0))) rZ!=b! p/\(∀i∈p.toList,i<cO!)/\sc! cO!/\∀r,H r=a!->Q (y! r) (cf! r (X! (ko! (rH! i))))
theorem zel{ae:dp!}{O:L2.St}{H:Hp}{s:Shared}(I:N!):∀{ys:List V}{af:List Value}{ps:List (Int×Int)},xt ys af->cO!=a5!-> (∀i,i<a5!->∃a,al! ys ag!/\SqT X.K H a (cU! (gA! (0,0)).1 (gA! (0,0)).2))->wI L! af ps
 | [],_,[],.nil,_,_=>cD! | [],_,_::_,_,l,_=>by simp at l | _::_,_,[],_,l,_=>by simp at l | y::ys,_,q::ps,.cons r rs,l,h=>by
  refine eX! ?_ (zel I rs (by simpa using l) (eH! (by simpa using h (i+1) (by simpa using hi))));obtain⟨a,e,t⟩:=h 0 (by simp);simp only[_c,_y]at e;subst e;cases r;obtain⟨aP,r',pl,_⟩:=lG! t;obtain⟨o,ho,hc,n,hd⟩:=pl;simp only[List.getD_cons_zero]at r';obtain⟨u,us,rfl⟩:∃u us,aP=u::us:=by cases r';exact ce! _
  cases r' with | cons r1 r2=>
   obtain⟨t1,rfl⟩:=r1;obtain⟨t2,rfl,t3,rfl⟩:=vals1 r2;exact⟨a,o,n,t1,t3,rfl,ho,hc,hd⟩
theorem zhA:∀{ys:List V}{af:List Value},xt ys af->∀i,i<cO!->wQ (rH! i) (af.getD i ab!):=λr=>by induction r with
 | nil=>exact eH! (bO! hi (Nat.not_lt_zero i)) | cons r _ ih=>
  intro i hi;cases i with
  | zero=>exact r | succ i=>exact ih i (_b8 hi)
theorem z9I{ys:aG!}{af:bZ!}(h:xt ys af):∀(p:List Nat),(∀i∈p,i<cO!)->xt (p.map λi=>rH! i) (p.map λi=>af.getD i ab!)
 | [],_=>cD! | i::p,hp=>eX! (zhA h i (hp i iA!)) (z9I h p λj hj=>hp j (.tail _ hj))
theorem zbF:jR! X ly! (zmV X.K):=by
 intro ae s O H xs us Q I r h;obtain⟨l,ys,ps,p,rfl,hq,len,h2,fG,dN,he,hp,au,q⟩:=h;obtain⟨u,rfl,rx⟩:=lj!;cases rx;obtain⟨af,r',pl,hz⟩:=mh!;have ap:=r'.length;refine zgE (ps:=ps) (p:=p) pl.isList (zel I r' len dN) (by lia) (by lia) he ?_;obtain⟨c',e⟩:=sortedAll_at L! af (z8h af p);refine⟨y! dZ!,_,I.laid (t':=s.toks) (λb o z=>sortedAll_old z) (_cq _) (show kC aV! X.w _ (sN! af (z8h af p)) _ (X! (ko! (rH! i))) from⟨?_,_,c',z9I r' p.toList hp,e⟩),rfl,q _ (sn! (_cq _))⟩;rw[_z,au];exact hz
def z3W:x!->bi!
 | [d],s=>match mm! d with
  | some xs=>match z4S xs with
   | some ps=>ae! (2<=w!/\w!<64) (match rE! (λi j=>ov! (gA! (0,0)) (o9! (0,0))) rZ! with
     | some p=>ae! (p.toList.all (λi=>eu! i w!)=d!/\sc! w!) (bw! (ko! (xs.getD i aA!))) | none=>.no) | none=>.no
  | none=>.no
 | _,_=>.no
theorem z6M{mg:Gm}{H:Hp}{Y:ao!}:∀{xs:List D}{ps:List (Int×Int)}{vs:List V},z4S xs=b! ps->hE!->w!=a5!/\ ∀i,i<a5!->∃a,al! vs ag!/\SqT ns! H a (cU! (gA! (0,0)).1 (gA! (0,0)).2)
 | [],ps,vs,e,h=>by
  simp only[z4S,_y]at e;subst e;exact g4! (eH! (by simp at hi)) | x::xs,ps,vs,e,h=>by
  unfold z4S at e;split at e;·simp at *
  ·rename_i a b r z;cases z;cases q:z4S xs with
   | none=>rw[q]at e;simp at e | some t=>
    rw[q]at e;simp only[_ai,_y]at e;subst e;simp only[yo]at h;obtain⟨v,ws,rfl,h1,h2⟩:=h;obtain⟨l,k⟩:=z6M q h2;refine⟨by simp[l],eH! ?_⟩;cases i with
    | zero=>
     obtain⟨c,us,rfl,q1,q2⟩:=kP (K:=mg.K) h1;obtain⟨v1,v2,rfl,d1,d2⟩:=zaV q2;cases yy d1;cases yy d2;exact aH! c q1 | succ i=>simpa using k i (by simpa using hi)
  ·cases e
theorem zcN{mg:Gm}{H:Hp}{Y:ao!}:∀{xs:List D}{vs:List V},hE!->∀i,i<w!->je! (xs.getD i aA!) (vs.getD i aA!)
 | [],_,_,i,hi=>by simp at hi | x::xs,vs,h,i,hi=>by
  simp only[yo]at h;obtain⟨v,ws,rfl,h1,h2⟩:=h;cases i with
  | zero=>simpa using h1 | succ i=>simpa using zcN h2 i (by simpa using hi)
theorem zar{mg:Gm}{H:Hp}{Y:ao!}{xs:x!}{vs:aG!}(h:hE!):∀(p:List Nat),(∀i∈p,i<w!)->f7! H Y (p.map λi=>xs.getD i aA!) (p.map λi=>vs.getD i aA!)
 | [],_=>by simp[yo] | i::p,hp=>by
  simp only[_u,yo];exact g6! _ _ (zcN h i (hp i iA!)) (zar h p λj hj=>hp j (.tail _ hj))
theorem zjH:∃r,jR! X ly! r/\z2A X E r z3W:=km! zbF.freeze (by
 unfold z3W at h;split at h
 ·split at h
  ·rename_i d xs e;split at h
   ·rename_i ps nV;split at h
    ·rename_i h2;split at h
     ·rename_i p ep;split at h
      ·rename_i hp;obtain⟨v,rfl,dn⟩:=lw!;obtain⟨a,ws,rfl,q1,q2⟩:=yt r e dn;obtain⟨l,k⟩:=z6M nV q2;have hl:=q2.length;have cr:∀i∈p.toList,i<w!:=eH! (by simpa using _Q.mp hp.1 i hi)
       exact⟨a,ws,ps,p,rfl,C! q1,by lia,by lia,by lia,k,ep,eH! (by have:=cr i hi;lia),by rw[hp.2];lia,z0N r h (zar q2 _ cr)⟩
      ·exact h.elim
     ·exact h.elim
    ·exact h.elim
   ·exact h.elim
  ·exact h.elim
 ·exact h.elim)
end
end Dd
namespace L2
section
variable {X:Cx}{v1 v2 e:Expr}{t1 t2 te:TE}{k1 k2:Str}{ao ak bF p1 p2:Pos}{j1 j2:Nat}
theorem ziM(hk:k1≠k2)(h1:W! v1 t1)(h2:W! v2 t2)(he:W! e te) (am:B! (l7! (.Dict (h8! (g1! k1 j1 p1) (g1! k2 j2 p2)) [v1,v2] bF) "get" (hr! (.Dict (h8! (g1! k1 j1 p1) (g1! k2 j2 p2)) [v1,v2] bF)) = hr! (.Dict (h8! (g1! k1 j1 p1) (g1! k2 j2 p2)) [v1,v2] bF))) (aH:dq! (hD! (hX! ak [e]) (! x.1)&&hD! (nF! ak [] az!) (gq! x.1) && bl! (t! [e]+t! ([]:g2!)+(nG! ([]:g2!) 0 1)<30))) (ai:dq! p6!)(hs:B! (hX! ak [e]=[d1!])): W! (fJ! (mN! (.Dict (h8! (g1! k1 j1 p1) (g1! k2 j2 p2)) [v1,v2] bF) "get") [e] [] ak) (gS! (t1 O H λx1 H1=>t2 O H1 λx2 H2=>te O H2 λy H3=>∃k,y=aD! k/\Q (ak! k k1 x1 (ak! k k2 x2 aA!)) H3)):=by
 intro ae s O H Q I h;refine _b4 am aH ai hs (wpAny_Dict_walk (knd:=sb! X.w) rfl rfl (by simp) (Nat.le_of_ble_eq_true rfl) ?_);have far:=I.far;have I0:l4! ({s with heap:=ij! ({cls:=kr!,data:=lN! #[]})}):=I.kept (t':=s.toks) λb u z=>_i _ z;have fp:∀b∈[at!],zcG X ae H b:=cv! (by
  cases _bk.mp hb;exact I.fpOk am! (mF! _))
 have g0:fi! (ij! ({cls:=kr!,data:=lN! #[]})) at! ({cls:=kr!,data:=lN! #[]}):=hh!;have I1:=I0.pinned fp (cv! (by
  cases _bk.mp hb;exact bQ! g0 (by intro v z;cases z)))
 have d0:(ij! ({cls:=kr!,data:=lN! #[]})).DictOf (sb! X.w) at! []:=Heap.DictOf.new _;refine pairTrees_cons_walk (_cK (thn (h1 _ _ O H _ (I1.tok _) h) λu1 s1 ⟨x1,H1,I2,r1,q1⟩=>?_));refine pairTrees_cons_walk (_cK (thn (h2 _ _ O H1 _ (I2.tok _) q1) λu2 s2 ⟨x2,H2,I3,r2,q2⟩=>pairTrees_nil_walk ?_));have pin:=I3.pin _ (_P _ (_P _ (kN iA! g0)));refine⟨[(k1,u1),(k2,u2)],br! (strKind_is _ _ _ _) rfl (strKind_is _ _ _ _) lI!,d0.at λo z=>?_,λh' dd sb=>?_⟩
 ·rw[g0]at z;cases z;exact pin.1
 have em:merged ([]:bU! d2!) [(k1,u1),(k2,u2)]=[(k1,u1),(k2,u2)]:=by simp[merged,stored,hk]
 rw[em]at dd;obtain⟨f0,f1,f2,f3,f4,f5⟩:=fp _ iA!;have I4:cQ! H2 ({s2 with heap:=h',toks:=s2.toks+2}):=I3.unpinned.turned (it:=s.heap.objs.size) (λb o hb z=>aJ! (sb.2 b hb) z) pin.2.1 pin.2.2.1 f3 f4 f5;obtain⟨od,es,ep,ho,hx,hd,_⟩:=dd;have nW:∀b∈[at!],zcG X ae H2 b:=cv! (by
  cases _bk.mp hb;exact⟨pin.2.1,f1,f2,f3,f4,f5⟩)
 have I5:=I4.pinned nW (cv! (by
  cases _bk.mp hb;exact bQ! ho (by intro v z;rw[hd]at z;cases z)))
 have dd:h'.DictOf (sb! X.w) at! [(k1,u1),(k2,u2)]:=⟨od,es,ep,ho,hx,hd,by assumption⟩;refine⟨nP!,"dict.get",PySem.F.plainAttrs_dict,PySem.F.slot_dict_get,PySem.F.type_dict_get,Heap.DictOf.typeIs (s:={s2 with heap:=h',toks:=s2.toks+2}) dd,λa z=>?_,?_⟩
 ·cases z;exact a3! od ho hx.2.1
 refine _b5 rfl (_bz (_cP (thn (he _ _ O H2 _ I5 q2) λu3 s3 ⟨y,H3,I6,r3,k,ey,q3⟩=>_c6 ?_)));subst ey;obtain⟨t,rfl⟩:=r3;have iD:=I6.pin _ (_P _ (_P _ (kN iA! ho)));have lg:s3.heap.DictOf (sb! X.w) at! [(k1,u1),(k2,u2)]:=dd.at λo z=>by
  have z':dK! at!:=z;rw[ho]at z';cases z';exact iD.1
 refine call_meetsIn PySem.F.slot_dict_get lg.typeIs PySem.F.entry_dict_get (PySem.F.args_dict_get_2 _ _) (meets_dict_get (sb! X.w) at! (strKind_is _ _ k t) far) ⟨_,lg.mapOf,_,H3,I6.unpinned.tok _,?_,q3⟩;by_cases c1:k=k1
 ·subst c1;simpa[valueAt] using r1
 ·by_cases c2:k=k2
  ·subst c2;simpa[valueAt,hk,c1] using r2
  ·have e1:¬ k1=k:=λz=>c1 jH!;have e2:¬ k2=k:=λz=>c2 jH!;simp only[valueAt,List.find?,e1,e2,c1,c2,_cG,_aV,Option.map_none,_du];rfl
end
open PySem.Builtin.Str
section
variable {X:Cx}{o e:Expr}{to te:TE}{ao ak pos:Pos}
theorem zkg(ho:W! o to)(am:B! (l7! o "upper" gI!=gI!))(ai:dq! p6!): W! (fJ! (mN! o "upper") [] [] ak) (gS! (to O H (hO! (∃z,x=aD! z/\tooLong (t! (Txt.upper z))=q!/\Q (aD! (Txt.upper z)) H1)))):=by
 intro ae s O H Q I h;refine Call_method0 am ai (thn (ho ae s O H _ I h) λv s1 ⟨x,H1,I1,r1,z,ez,hz,q⟩=>?_);subst ez;obtain⟨t,rfl⟩:=r1;exact SB.upper hz ⟨aD! (Txt.upper z),H1,I1.tok _,cl! _,q⟩
def zwv:V->dm!->dm!->Hp->eU!:=qB! (∃z i,x=aD! z/\lo=h7!/\hi=a!/\py!<=aY!/\Q (aD! (ry! z h7!)) H)
theorem zs0:SlR X zwv:=by
 intro ae s O H x v vl vu lo hi sl Q I rx hs pl pu h;obtain⟨z,i,rfl,rfl,rfl,hz,q⟩:=h;obtain⟨t,rfl⟩:=rx;obtain⟨ob,ho,hc,hd⟩:=hs;cases pl with | int i ti=> cases pu with | none=>
   refine⟨go!,_,PySem.F.slot_str_getitem.lookup,typeIs_str _ _ _,wpAny_getItem_str_slice (l:=b! (i,ti)) (u:=none) (st:=none) (ck! ob ho hc hd) rfl (post_val_or_str ⟨_G (Txt.slice_le z _ _) hz,λt' k=>?_⟩)⟩;exact⟨aD! (ry! z h7!),H,iz!,cl! _,q⟩
end
end L2
namespace Dd
open L2 PySem.Builtin.Str
section
variable {X:Cx}{E:XK}{o e v1 v2:Expr}{ao ak bF p1 p2 pos:Pos}{k1 k2:Str}{j1 j2:Nat}
theorem ze0{mg:Gm}{H:Hp}{Y:ao!}{z:Str}:je! (aD! z) (aD! z):=by rfl
noncomputable def zmx(f:FE):FE:=e2! (eh! (match d with
 | .str z=>ae! (tooLong (t! (Txt.upper z))=q!) (I! (aD! (Txt.upper z))) | _=>.no))
theorem zn6{f:FE}(ho:Y! o f)(am:B! (l7! o "upper" gI!=gI!))(ai:dq! p6!): Y! (fJ! (mN! o "upper") [] [] ak) (zmx f):=yp (zkg ho am ai) λO H Q ⟨Y,ρ,s,r,en,h⟩=>by
 refine yR (k:=kV! (match d with | .str z=>ae! (tooLong (t! (Txt.upper z))=q!) (eG! (D.str (Txt.upper z)) s1) | _=>.no)) r en h _ λv H1 Y1 s1 d r1 av dn stp h1=>?_;cases d with
 | str z=>
  cases z0P dn;simp only at h1;split at h1
  ·rename_i hz;exact mS! z hz (rM! ze0)
  ·exact h1.elim | _=>exact h1.elim
noncomputable def zvT(f:FE)(fl:FO):FE:=e2! (eh! (D! (fl ρ s1) (λlo s2=>match d,lo with
 | .str z,some i=>ae! (py!<=cap) (ba! (aD! (ry! z h7!))) | _,_=>.no)))
theorem zjS{lo:sf!}{p2:Pos}{fe:FE}{fl:FO}(he:fA! fe)(hl:RO X E lo fl):Y! (mK! e (.Slice lo a! a! p2)) (zvT fe fl):= yp (zeG zs0 he hl zhC) λO H Q ⟨Y,ρ,s,r,en,h⟩=>by
  refine yR (k:=kV! (D! (fl ρ s1) (λlo s2=>match d,lo with | .str z,some i=>ae! (py!<=cap) (eG! (D.str (ry! z h7!)) s2) | _,_=>.no))) r en h _ λv H1 Y1 s1 d r1 av dn stp h1=>?_;refine zdG (k:=fun ρ lo s2=>match d,lo with | .str z,some i=>ae! (py!<=cap) (eG! (D.str (ry! z h7!)) s2) | _,_=>.no) r1 av h1 _ λlo H2 Y2 s2 r2 aY ag h2=>?_;cases d with
  | str z=>
   cases z0P dn;cases lo with
   | none=>exact h2.elim | some i=>
    simp only at h2;split at h2
    ·rename_i hz;exact⟨z,i,rfl,rfl,rfl,z0D hz,h2.here r2 ze0⟩
    ·exact h2.elim
  | _=>cases lo<;>exact h2.elim
def zle:D->D->bi!
 | .str a,.str b,s=>ae! (a.length+ps!<=cap) (k! (aD! (a++b))) | _,_,_=>.no
theorem zlF:∃r,gG! .Add r/\cZ! zle:=by
 refine bQ! zfE ?_;intro H Y s d1 d2 v1 v2 Q r h1 h2 h;unfold zle at h;split at h
 ·rename_i a b;cases z0P h1;cases z0P h2;split at h
  ·rename_i hl;exact⟨a,b,rfl,rfl,z0D hl,e9! ze0⟩
  ·exact h.elim
 ·exact h.elim
noncomputable def zgL(k1 k2:Str)(f1 f2 fe:FE):FE:=ca! (f1 ρ s) (λx1 s1=>D! (f2 ρ s1) (λx2 s2=>D! (fe ρ s2) (λy s3=>match y with
 | .str k=>ge! (ak! k k1 x1 (ak! k k2 x2 aA!)) | _=>.no)))
theorem zr7{f1 f2 fe:FE}(hk:k1≠k2)(h1:Y! v1 f1)(h2:Y! v2 f2)(he:fA! fe) (am:B! (l7! (.Dict (h8! (g1! k1 j1 p1) (g1! k2 j2 p2)) [v1,v2] bF) "get" (hr! (.Dict (h8! (g1! k1 j1 p1) (g1! k2 j2 p2)) [v1,v2] bF)) = hr! (.Dict (h8! (g1! k1 j1 p1) (g1! k2 j2 p2)) [v1,v2] bF))) (aH:dq! (hD! (hX! ak [e]) (! x.1)&&hD! (nF! ak [] az!) (gq! x.1) && bl! (t! [e]+t! ([]:g2!)+(nG! ([]:g2!) 0 1)<30))) (ai:dq! p6!)(hs:B! (hX! ak [e]=[d1!])): Y! (fJ! (mN! (.Dict (h8! (g1! k1 j1 p1) (g1! k2 j2 p2)) [v1,v2] bF) "get") [e] [] ak) (zgL k1 k2 f1 f2 fe):= yp (ziM hk h1 h2 he am aH ai hs) λO H Q ⟨Y,ρ,s,r,en,h⟩=>by
  refine yR (k:=fun ρ x1 s1=>D! (f2 ρ s1) (λx2 s2=>D! (fe ρ s2) (λy s3=>match y with | .str k=>eG! (ak! k k1 x1 (ak! k k2 x2 D.non)) s3 | _=>.no))) r en h _ λu1 H1 Y1 s1 x1 r1 av d1 nR h1=>?_;refine yR (k:=fun ρ x2 s2=>D! (fe ρ s2) (λy s3=>match y with | .str k=>eG! (ak! k k1 x1 (ak! k k2 x2 D.non)) s3 | _=>.no)) r1 av h1 _ λu2 H2 Y2 s2 x2 r2 aY d2 bj h2=>?_;refine yR (k:=fun ρ y s3=>match y with | .str k=>eG! (ak! k k1 x1 (ak! k k2 x2 D.non)) s3 | _=>.no) r2 aY h2 _ λu3 H3 Y3 s3 y r3 mW d3 cB h3=>?_;cases y with
  | str k=>
   cases z0P d3;refine aH! k (h3.here r3 ?_);split;·exact (d1.mono bj).mono cB
   ·split;·exact d2.mono cB
    ·rfl | _=>exact h3.elim
end
end Dd
namespace Dd
open L2
section
variable {X:Cx}{E:XK}{e a b c tg iter az:Expr}{es:aI!}{pos:Pos}{CX:CXT}
variable {scope:Scope}{aC:aI!}{fi:FI}{fg:FG}{ft:FT}{fe:FE}{g:TG}{aF py:Pos}
theorem zfj(N':aq!)(mp:fa!)(hc:b0!)(hi:RI X E tg ii! fi)(hg:mg! cC! tg g)(ck:z8l M! E mp g fg)(ht:md! cC! aC (tT M! E ft))(he:p9! cC! az fe) (aV:B! kw!)(aR:dq! (zgQ lK!))(aI:dq! sI!)(aX:dq! (kM! N' mp)) (hs:lv! (lm! x=lu!)):Y! (gi! [gK! 0]) (z1U fi mp fg ft fe):= yp (zhM (te:=tE M! E fe) N' mp hc hi hg ht (λex s H=>he ex s H) aV (z64 aR) (z5R aI) aX hs) λO H Q ⟨Y,ρ,s,r,en,h⟩=>by
  refine z6d ck r en h λH1 Y1 s1 xs vs r1 av dn h1 bG=>?_;split at h1
  ·rename_i hf;exact zgA r1 h1 hf dn
  ·exact h1.elim
end
section
variable {X:Cx}{E:XK}{es:aI!}{fa:FE}{fr:FA}
theorem aN(ha:gb! (fq! p))(hr:RA X E es fr):RA X E ((fq! p)::es) (zb fa fr):=jz ha hr (zr ..)
theorem aK(ha:gb! (mf! c p))(hr:RA X E es fr):RA X E ((mf! c p)::es) (zb fa fr):=jz ha hr (z9r ..)
theorem aQ(ha:gb! (fJ! g xs ks p))(hr:RA X E es fr):RA X E ((fJ! g xs ks p)::es) (zb fa fr):=jz ha hr (xu ..)
theorem aT(ha:gb! (hP! xs k p))(hr:RA X E es fr):RA X E ((hP! xs k p)::es) (zb fa fr):=jz ha hr (zey ..)
theorem aS(ha:gb! (rO! b p))(hr:RA X E es fr):RA X E ((rO! b p)::es) (zb fa fr):=jz ha hr (uY ..)
theorem aB(ha:gb! (.BinOp a o b p))(hr:RA X E es fr):RA X E ((.BinOp a o b p)::es) (zb fa fr):=jz ha hr (zkf ..)
theorem aL(ha:gb! (.List xs p))(hr:RA X E es fr):RA X E ((.List xs p)::es) (zb fa fr):=jz ha hr (zkV ..)
theorem aO{a:Expr}{g:em! Comprehension}{sc:Scope}{p:Pos}(ha:gb! (.ListComp a g sc p))(hr:RA X E es fr):RA X E ((.ListComp a g sc p)::es) (zb fa fr):=jz ha hr (zF ..)
theorem aM(ha:gb! (.Compare a o b p))(hr:RA X E es fr):RA X E ((.Compare a o b p)::es) (zb fa fr):=jz ha hr (z5Q ..)
theorem aU(ha:gb! (.UnaryOp o a p))(hr:RA X E es fr):RA X E ((.UnaryOp o a p)::es) (zb fa fr):=jz ha hr (zos ..)
theorem zvH{pos:Pos} {p:Pos} (F:Has aV! X.w X.K fG! fm! CX x n M) (hr:z2G k X.A) (hx:ld! X E) (ha:RA X E (e::es) f) (hk:kj! (n<=k)) (hg:B! fj!) (aG:cp! (x==cP!)) (he:B! (aw! (e::es)=d1!::iD!)) (au:eg! es (·.1)):Y! (dw! x p (e::es)) (ze M f):=zrR F (hr.mono hk) hx hg ha aG he au
end
section
variable {q:Ask}{w:World}{K:W.Frag}{h:Heap}{mg:Str->aU!}
theorem zmd(X:hC!)(G:oP! mg)(e:zeA q K=jt! q)(i:Nat) {st:Stmt}(hx:al! q.fs (x,st)):∃f fd,fx! x ft!/\Fun K x x st f fd:=let ⟨f,fd,a,F⟩:=zuL e x st (_x hx);⟨f,fd,W.mg_of X G a,F⟩
theorem qf(X:hC!)(G:oP! mg)(e:zeA q K=jt! q)(i:Nat) (hx:al! q.bs x):hI! x:=W.mg_none_of X G (zti e x (_x hx))
theorem zlV(X:hC!)(G:oP! mg)(e:zeA q K=jt! q)(i:Nat) (hx:al! q.cs (x,c)):∃t,fx! x (ci! c):=let ⟨t,z⟩:=zuY e x c (_x hx);⟨t,W.mg_of X G z⟩
end
theorem us0{P:bZ!->g!}(h:P []):∀us:List Value,iK!=0->P us | [],_=>h
theorem usS{P:bZ!->g!}{n:Nat}(h:∀a us,iK!=n->P (a::us)):∀us:List Value,iK!=n+1->P us | a::us,e=>h a us (Nat.succ.inj e)
theorem us1{P:bZ!->g!}(h:∀a,P [a]):∀us:List Value,iK!=1->P us:=usS λa=>us0 (h a)
theorem us2{P:bZ!->g!}(h:∀a b,P [a,b]):∀us:List Value,iK!=2->P us:=usS λa=>us1 (h a)
theorem us3{P:bZ!->g!}(h:∀a b c,P [a,b,c]):∀us:List Value,iK!=3->P us:=usS λa=>us2 (h a)
def Fq(K:W.Frag)(mg:Str->aU!)(x:Str)(st:Stmt):g!:=∃f fd,fx! x ft!/\Fun K x x st f fd
class Hs (P:Program)(w:World)(K:W.Frag)(mg:Str->aU!)(base:Heap)(CX:CXT)(x:Str)(n:outParam Nat)(M:outParam Mir):g! where h:Has P w K mg R! CX x n M
structure Rm(P:Program)(w:World)(K:W.Frag)(mg:Str->aU!)(base:Heap)(k:Nat)(A:Around):g! where r:z2G k A
section
variable {P:Program}{w:World}{K:W.Frag}{mg:Str->aU!}{base:Heap}{k n:Nat}{A:Around}
theorem Rm.units(h:Rm P w K mg R! k A):pn!+64<np!:=h.r.units
theorem Rm.mono(h:Rm P w K mg R! k A)(l:n<=k):z2G n A:=h.r.mono l
theorem Rm.has(_:Rm P w K mg R! k A)(x:Str){M:Mir}[F:ai! x n M]:Has P w K mg R! CX0 x n M:=F.h
theorem r_k{pos:Pos} {p:Pos} (hr:Rm P w K mg R! k A) (ha:RA X E0 (e::es) f) [F:ai! x n M] (q:B! ((X.A,aV!,X.w,X.K,fG!,fm!)=(A,P,w,K,mg,R!))) (hk:n<=k:=by first | decide | omega) (hg:B! fj!) (aG:cp! (x==cP!)) (he:B! (aw! (e::es)=d1!::iD!)) (au:eg! es (·.1)) : RE X E0 (dw! x p (e::es)) (ze M f):=by cases q;exact zvH F.h hr.r zkE ha hk hg aG he au
theorem Hs.tidy(h:f5! P w K mg CX x n M):f5! P w K mg CX x n (z5K M):=⟨h.h.tidy⟩
theorem yD{st:Stmt} (q:Fq K mg x st)(S:S! N ps st) (body:∀{f:Addr}{aj:Value}{A:Around}{outer:List Env}{s:Shared}{H:Hp}{E:XK},Rm P w K mg R! k (kx! x dc! f aj)->(z5B CX0 P w K mg R! N x dc! f aj A au! s H E).nox.calm=d!-> RSs (z5B CX0 P w K mg R! N x dc! f aj A au! s H E).nox E0 ic! fs) (hb:rV! (iK!=a5!) (qy! (W.fnOf x x (kh st) ic! dc! ab! kV aE pm an aj ct) (dT! us)=d3! mi!))(hn:B! (a5!=n)):ai! x (k+1) (Mof N n fs):= let ⟨_,_,hm,F⟩:=q;⟨zra F hm (F.binds hb) S hn λ_ _ _ _ _ _ hr hc=>body ⟨hr⟩ hc⟩
theorem zqI{st:Stmt}{ps:aq!}(q:Fq K mg x st) (hb:rV! (iK!=a5!) (qy! (W.fnOf x x (kh st) ic! dc! ab! kV aE pm an aj ct) (dT! us)=d3! mi!))(n:Nat):ai! x n (λ_ _=>.no):= let ⟨_,_,hm,F⟩:=q;⟨(zrv F hm (F.binds hb)).mono gL!⟩
end
class HsH (P:Program)(w:World)(K:W.Frag)(mg:Str->aU!)(base:Heap)(CX:CXT)(x:Str)(n:outParam Nat)(M:outParam Mir):g! where h:zse P w K mg R! CX x n M
section
variable {P:Program}{w:World}{K:W.Frag}{mg:Str->aU!}{base:Heap}{k n:Nat}{A:Around}
theorem Rm.hasX(_:Rm P w K mg R! k A)(x:Str){M:Mir}[F:f5! P w K mg dJ! x n M]:Has P w K mg R! dJ! x n M:=F.h
theorem Rm.hasH(_:Rm P w K mg R! k A)(x:Str){M:Mir}[F:HsH P w K mg R! CX0 x n M]:zse P w K mg R! CX0 x n M:=F.h
theorem z6b{X:Cx} {E:XK} {CX:CXT} {es:aI!} {e:Expr} {pos:Pos} {x:Str} {p:Pos} {M:Mir} {f:FA} (hr:Rm P w K mg R! k A) (hx:ld! X E) (ha:RA X E (e::es) f) [F:f5! P w K mg CX x n M] (q:B! ((X.A,aV!,X.w,X.K,fG!,fm!)=(A,P,w,K,mg,R!))) (hk:n<=k:=by first | decide | omega) (hg:B! fj!) (aG:cp! (x==cP!)) (he:B! (aw! (e::es)=d1!::iD!)) (au:eg! es (·.1)):Y! (dw! x p (e::es)) (ze M f):=by cases q;exact zvH F.h hr.r hx ha hk hg aG he au
theorem qH{x:Str}{st:Stmt}{N ps:aq!}{k n:Nat}{fs:FS}(q:Fq K mg x st)(S:S! N ps st) (body:∀{f:Addr}{aj:Value}{A:Around}{outer:List Env}{s:Shared}{H:Hp}{E:XK},Rm P w K mg R! k (kx! x dc! f aj)->(z5B dJ! P w K mg R! N x dc! f aj A au! s H E).calm=d!-> RSs (z5B dJ! P w K mg R! N x dc! f aj A au! s H E) E ic! fs) (hb:rV! (iK!=a5!) (qy! (W.fnOf x x (kh st) ic! dc! ab! kV aE pm an aj ct) (dT! us)=d3! mi!))(hn:B! (a5!=n)):f5! P w K mg dJ! x (k+1) (kU N n fs):= let ⟨_,_,hm,F⟩:=q;⟨zno F hm (F.binds hb) S hn λ_ _ _ _ _ _ hr hc=>body ⟨hr⟩ hc⟩
theorem zpw{x:Str}{st:Stmt}{N ps:aq!}{k n:Nat}{fs:FS}(q:Fq K mg x st)(S:S! N ps st) (body:∀{f:Addr}{aj:Value}{A:Around}{outer:List Env}{s:Shared}{H:Hp}{E:XK},km k (kx! x dc! f aj)-> RSs (z5B CX0 P w K mg R! N x dc! f aj A au! s H E).nox E0 ic! fs) (hb:rV! (iK!=a5!) (qy! (W.fnOf x x (kh st) ic! dc! ab! kV aE pm an aj ct) (dT! us)=d3! mi!))(hn:B! (a5!=n)):HsH P w K mg R! CX0 x (k+1) (Mof N n fs):= let ⟨_,_,hm,F⟩:=q;⟨zo1 F hm (F.binds hb) S hn λ_ _ _ _ _ _ hr=>body hr⟩
end
open PySem.W
end Dd
namespace Dd
open L2
section
variable {X:Cx}{E:XK}{e:Expr}{pos cA:Pos}
noncomputable def zvn(i:Nat)(f:FE):FS:=e2! (match ρ[i]? with
 | some (some (.int a))=>eh! (match d with | .int b=>gH! (h3! (e! (a+b))) | _=>.no)
 | _=>.no)
@[simp] theorem zvA(h:al! ρ (e! a))(hf:ay!=I! fe!):zvn i f ρ s=gH! (h3! (e! (a+b))):=by simp only[zvn,h,hf,Rb]
end
open PySem.W
end Dd
namespace Dd
open L2
noncomputable def zmQ:x!->bq! h!
 | []=>b! [] | .int i::r=>(zmQ r).map (i::·) | _=>none
noncomputable def zrS:D->bq! h!
 | .tup ds=>zmQ ds | _=>none
noncomputable def zcX:x!->bq! fr!
 | []=>b! [] | d::ds=>match zrS d,zcX ds with | some n,some ns=>b! (n::ns) | _,_=>none
theorem zew:∀ns:List Int,zmQ is!=b! ns
 | []=>rfl | i::r=>by simp[zmQ,zew r]
theorem zir:∀{ds:List D}{ns:List Int},zmQ ds=b! ns->ds=is!
 | [],_,e=>by simp[zmQ]at e;subst e;rfl | d::r,ns,e=>by cases d with
  | int i=>
   simp only[zmQ,_al]at e;obtain⟨a,h1,rfl⟩:=e;rw[zir h1];rfl | _=>simp[zmQ]at e
theorem zjx(ns:h!):zrS (n! is!)=b! ns:=zew ns
theorem zoI(e:zrS d=b! ns):d=n! is!:=by cases d with
 | tup ds=>rw[zir e] | _=>simp[zrS]at e
theorem zcs:∀L:List (List Int),zcX (ow! (λns=>n! is!))=b! L
 | []=>rfl | n::L=>by simp only[_u,zcX,zjx,zcs L]
def AtN(H:Hp)(v:V)(ns:h!):g!:=∃b,v=y! b/\cY! (n! hZ!)
theorem zld(h:zrS d=b! ns)(dn:fz!):AtN H v ns:=by
 rw[zoI h]at dn;obtain⟨a,vs,rfl,e,dd⟩:=dn;rw[(show ∀{ns:List Int}{vs:List V},oU! is!->vs=hZ! from by
  intro ns;induction ns with
  | nil=>exact id | cons i r ih=>
   intro vs h;obtain⟨v,r',rfl,h1,h2⟩:=h;rw[yy h1,ih h2];rfl) dd]at e;exact aH! a e
theorem zcM: ∀{ds:List D}{vs:List V}{L:List (List Int)},zcX ds=b! L->jr!->qi! (λv ns=>AtN H v ns) vs L
 | [],_,_,h,dn=>by simp only[zcX,_y]at h;subst dn;subst h;exact cD! | d::ds,_,_,h,dn=>by
  obtain⟨v,vs,rfl,h1,h2⟩:=dn;simp only[zcX]at h;split at h
  ·rename_i n ns e1 e2;cases h;exact eX! (zld e1 h1) (zcM e2 h2)
  ·cases h
end Dd
namespace Dd
open L2
noncomputable def lexN:h!->eB! h!
 | [],[]=>false | [],_::_=>true | _::_,[]=>false | x::a,y::b=>ak! x y (gU! a b) (eu! x y)
inductive z0x:bZ!->h!->g! | nil:z0x [] [] | cons {i t vs ns}:z0x vs ns->z0x (ci! i::vs) (i::ns)
theorem z0x.of_vals:∀{ns:List Int}{us:List Value},kB! hZ!->z0x us ns:=λ{ns}=>by induction ns with
 | nil=>intro us r;cases r;exact cD! | cons x ns ih=>
  intro us r;cases r with | cons q r=>obtain⟨_,rfl⟩:=q;exact .cons (ih r)
theorem z0x.length:∀{us ns},z0x us ns->iK!=e1!:=λr=>by induction r with
 | nil=>rfl | cons _ ih=>exact _au (· + 1) ih
end Dd
namespace Dd
open L2
section
variable {X:Cx}{E:XK}
theorem AtN.tuple{O:L2.St} (I:N!) (a:AtN H v ns)(r:wQ v u):∃b af,v=y! b/\u=y! b/\s.heap.IsTuple b af/\z0x pg! ns:=by
 obtain⟨b,rfl,e⟩:=a;cases (show u=lA! b from r);obtain⟨af,r,pl,hz⟩:=lG! (C! (C! e));exact⟨b,fE!,rfl,rfl,pl,z0x.of_vals (by exact r)⟩
end
end Dd
namespace L2
noncomputable def n3(a b c:Int):Nat:=an! (a<b) (fI! ((b-a-1) / c+1)) 0
end L2
namespace Dd
open L2
open PySem.W
theorem z0i{α β:bD!}{n:Nat}{lt:Nat->ln!}(f:α->KasT β):∀t:KasT α,ed! n (t.bind f)=D! (ed! n t) (λa=>ed! n (f a))
 | .ret a=>rfl | .ask i j k=>by
  show (ir! (i<n/\j<n) (ed! n (D! (k (lt i j)) f)))=D! (ir! (i<n/\j<n) (ed! n (k (lt i j)))) _;split;·exact z0i f _
  ·rfl
section
variable {N:Nat}{lt:Nat->ln!}(aD:∀i j,i<N->j<N->i≠j->lt j i=! lt i j)(tr:∀i j k,ds! i j->ds! j k->ds! i k)
noncomputable abbrev at0(p:fM!)(i:Nat):Nat:=p.getD i 0
structure PmN(N:Nat)(p:fM!):g! where pm:qW! (iM! N)
theorem PmN.size{p:fM!}(h:PmN N p):ox!=N:=by have:=h.pm.length_eq;simpa using this
theorem PmN.bd{p:fM!}(h:PmN N p){i:Nat}(hi:i<N):aB! i<N:=by
 have hs:=h.size;have:aB! i∈p.toList:=by
  rw[at0,Array.getD,qP! (by lia)];exact Array.getElem_mem_toList _
 exact _aO.mp (h.pm.mem_iff.mp iV!)
theorem PmN.ne{p:fM!} (h:PmN N p) {i j:Nat} (hi:i<N) (hj:j<N) (aJ:i≠j):aB! i≠aB! j:=λz=>by
 have hs:=h.size;have nd:p.toList.Nodup:=h.pm.nodup_iff.mpr List.nodup_range;rw[at0,at0,Array.getD,Array.getD,qP! (by lia),qP! (by lia)]at z;have:=(_a2 (i:=i) (j:=j) (h₀:=by simpa using (by lia:i<ox!)) (h₁:=by simpa using (by lia:j<ox!)) nd).mp (by simpa using z);exact aJ iV!
theorem PmN.of{p q:fM!}(h:PmN N p)(e:q.Perm p):PmN N q:=⟨aJ! (Array.perm_iff_toList_perm.mp e) h.pm⟩
def Asc(lt:Nat->ln!)(p:fM!)(k:Nat):g!:=∀i j,i<j->j<k->ds! (aB! i) (aB! j)
def Des(lt:Nat->ln!)(p:fM!)(k:Nat):g!:=∀i j,i<j->j<k->ds! (aB! j) (aB! i)
include tr
theorem Asc.more{p:fM!}{k:Nat}(h:Asc lt p k)(h1:1<=k)(e:ds! (aB! (k-1)) (aB! k)):Asc lt p (k+1):=λi j aJ hj=>by
 by_cases q:j=k
 ·subst q;by_cases q2:i=j-1;·subst q2;exact e
  ·exact tr _ _ _ (h i (j-1) (by lia) (by lia)) e
 ·exact h i j aJ (by lia)
theorem Des.more{p:fM!}{k:Nat}(h:Des lt p k)(h1:1<=k)(e:ds! (aB! k) (aB! (k-1))):Des lt p (k+1):=λi j aJ hj=>by
 by_cases q:j=k
 ·subst q;by_cases q2:i=j-1;·subst q2;exact e
  ·exact tr _ _ _ e (h i (j-1) (by lia) (by lia))
 ·exact h i j aJ (by lia)
include aD
theorem zay{p:fM!}(P:PmN N p):∀(f n0:Nat),1<=n0->n0+f<=N->Asc lt p n0->∃m,ed! N (kas_asc p f n0)=b! m/\n0<=m/\m<=n0+f/\Asc lt p m/\(m<n0+f->ds! (aB! m) (aB! (m-1)))
 | 0,n0,h1,hN,ha=>⟨n0,rfl,am!,am!,ha,λz=>pd! (by lia)⟩ | f+1,n0,h1,hN,ha=>by
  have b1:=P.bd (i:=n0) (by lia);have b2:=P.bd (i:=n0-1) (by lia);by_cases c:ds! jn! (aB! (n0-1))
  ·refine⟨n0,?_,am!,by lia,ha,bk! c⟩;show (ir! (jn!<N/\aB! (n0-1)<N) (ed! N (aF! (lt jn! (aB! (n0-1))) (KasT.ret n0) (kas_asc p f (n0+1)))))=_;rw[bS! b1 b2,_g c];rfl
  ·have e:ds! (aB! (n0-1)) jn!:=by
    rw[aD _ _ b1 b2 (P.ne (by lia) (by lia) (by lia))];simpa using c
   obtain⟨m,e1,e2,e3,e4,e5⟩:=zay P f (n0+1) (by lia) (by lia) (ha.more tr h1 e);refine⟨m,?_,by lia,by lia,e4,λz=>e5 (by lia)⟩;show (ir! (jn!<N/\aB! (n0-1)<N) (ed! N (aF! (lt jn! (aB! (n0-1))) (KasT.ret n0) (kas_asc p f (n0+1)))))=_;rw[bS! b1 b2,_o c];exact e1
theorem ze6{p:fM!}(P:PmN N p):∀(f n0:Nat),1<=n0->n0+f<=N->Des lt p n0->∃m,ed! N (kas_desc f p n0 0)=b! (p,m,0)/\n0<=m/\m<=n0+f/\Des lt p m
 | 0,n0,h1,hN,ha=>⟨n0,rfl,am!,am!,ha⟩ | f+1,n0,h1,hN,ha=>by
  have b1:=P.bd (i:=n0) (by lia);have b2:=P.bd (i:=n0-1) (by lia);by_cases c:ds! jn! (aB! (n0-1))
  ·obtain⟨m,e1,e2,e3,e4⟩:=ze6 P f (n0+1) (by lia) (by lia) (ha.more tr h1 c);refine⟨m,?_,by lia,by lia,e4⟩;show (ir! (jn!<N/\aB! (n0-1)<N) (ed! N (aF! (lt jn! (aB! (n0-1))) (an! (0 > 0) (kas_desc f (kas_rev p (n0-(0+1)) n0) (n0+1) 0) (kas_desc f p (n0+1) 0)) _)))=_;rw[bS! b1 b2,_g c,_o (by lia)];exact e1
  ·have e:ds! (aB! (n0-1)) jn!:=by
    rw[aD _ _ b1 b2 (P.ne (by lia) (by lia) (by lia))];simpa using c
   refine⟨n0,?_,am!,by lia,ha⟩;show (ir! (jn!<N/\aB! (n0-1)<N) (ed! N (aF! (lt jn! (aB! (n0-1))) _ (KasT.ask (aB! (n0-1)) jn! λd=>aF! d (.ret (p,n0,0)) (kas_desc f p (n0+1) (0+1))))))=_;rw[bS! b1 b2,_o c];show (ir! (aB! (n0-1)<N/\jn!<N) (ed! N (aF! (lt (aB! (n0-1)) jn!) (.ret (p,n0,0)) (kas_desc f p (n0+1) (0+1)))))=_;rw[bS! b2 b1,_g e];rfl
omit aD tr in
theorem zml{p:fM!} {m i:Nat} (hm:m<=ox!) (hi:i<m):at0 (kas_rev p 0 m) i=aB! (m-1-i):=by
 have e:=getElem?_mirror_all (xs:=p) (i:=0) (j:=m) hm i;rw[bS! gL! hi]at e;simp only[at0,Array.getD_eq_getD_getElem?,kas_rev];rw[e];simp
theorem zgX{p:fM!}(P:PmN N p)(hN:1<=N):∃m p',ed! N (qX! N p)=b! (m,p')/\PmN N p'/\Asc lt p' m/\1<=m/\m<=N:=by
 obtain⟨m,e1,e2,e3,e4,e5⟩:=zay aD tr P (N-1) 1 am! (by lia) (λi j h1 h2=>by lia);unfold kas_count;rw[z0i,e1];simp only[_O];by_cases q:m=N
 ·rw[_g (by simpa using q)];exact⟨m,p,rfl,P,e4,e2,by lia⟩
 ·rw[_o (by simpa using q)];by_cases q1:m > 1
  ·rw[_g q1];have b1:=P.bd (i:=0) (by lia);have b2:=P.bd (i:=m-1) (by lia);have c:=e4 0 (m-1) (by lia) (by lia);refine⟨m,p,?_,P,e4,e2,by lia⟩;show (ir! (aB! 0<N/\aB! (m-1)<N) (ed! N (aF! (lt (aB! 0) (aB! (m-1))) (KasT.ret (m,p)) _)))=_;rw[bS! b1 b2,_g c];rfl
  ·rw[_o q1];have m1:m=1:=by lia
   subst m1;have c:=e5 (by lia);obtain⟨k,f1,f2,f3,f4⟩:=ze6 aD tr P (N-(1+1)) (1+1) (by lia) (by lia) (λi j h1 h2=>by
    have:i=0:=by lia
    have:j=1:=by lia
    subst i;subst j;exact c);unfold kas_descPart;rw[z0i,f1];simp only[_O];rw[_o (by lia)];unfold kas_tail3;have P2:PmN N (kas_rev p 0 k):=P.of (mirror_perm _ _ _ _);have sz:=P.size;have iE:Asc lt (kas_rev p 0 k) k:=λi j h1 h2=>by
    rw[zml (by lia) (by lia),zml (by lia) (by lia)];exact f4 _ _ (by lia) (by lia)
   obtain⟨m2,g1,g2,g3,g4,_⟩:=zay aD tr P2 (N-k) k (by lia) (by lia) iE;rw[z0i,g1];exact⟨m2,kas_rev p 0 k,rfl,P2,g4,by lia,by lia⟩
theorem z6j{p:fM!}(P:PmN N p){k:Nat}(hk:k<N)(ha:Asc lt p k):∀(f l r:Nat),l<=r->r<=k->r-l<=f->(∀i,i<l->ds! (aB! i) (aB! k))->(∀i,r<=i->i<k->ds! (aB! k) (aB! i))-> ∃m,ed! N (kas_place p k f l r)=b! m/\m<=k/\(∀i,i<m->ds! (aB! i) (aB! k))/\∀i,m<=i->i<k->ds! (aB! k) (aB! i)
 | 0,l,r,h1,h2,h3,hl,hr=>⟨l,rfl,by lia,hl,λi z1 z2=>hr i (by lia) z2⟩ | f+1,l,r,h1,h2,h3,hl,hr=>by
  by_cases q:l ≥ r
  ·refine⟨l,?_,by lia,hl,λi z1 z2=>hr i (by lia) z2⟩;rw[kas_place,_g q];rfl
  ·have b1:=P.bd (i:=k) hk;have b2:=P.bd (i:=(l+r) / 2) (by lia);by_cases c:ds! (aB! k) (aB! ((l+r) / 2))
   ·obtain⟨m,e1,e2,e3,e4⟩:=z6j P hk ha f l ((l+r) / 2) (by lia) (by lia) (by lia) hl (λi z1 z2=>by
     by_cases z:i=(l+r) / 2;·subst z;exact c
     ·exact tr _ _ _ c (ha _ _ (by lia) z2));refine⟨m,?_,e2,e3,e4⟩;rw[kas_place,_o q];show (ir! (aB! k<N/\aB! ((l+r) / 2)<N) (ed! N (aF! (lt (aB! k) (aB! ((l+r) / 2))) (kas_place p k f l ((l+r) / 2)) _)))=_;rw[bS! b1 b2,_g c];exact e1
   ·have e:ds! (aB! ((l+r) / 2)) (aB! k):=by
     rw[aD _ _ b1 b2 (P.ne hk (by lia) (by lia))];simpa using c
    obtain⟨m,e1,e2,e3,e4⟩:=z6j P hk ha f ((l+r) / 2+1) r (by lia) h2 (by lia) (λi z1=>by
     by_cases z:i=(l+r) / 2;·subst z;exact e
     ·exact tr _ _ _ (ha _ _ (by lia) (by lia)) e) hr;refine⟨m,?_,e2,e3,e4⟩;rw[kas_place,_o q];show (ir! (aB! k<N/\aB! ((l+r) / 2)<N) (ed! N (aF! (lt (aB! k) (aB! ((l+r) / 2))) _ (kas_place p k f ((l+r) / 2+1) r))))=_;rw[bS! b1 b2,_o c];exact e1
omit aD tr in
theorem zlx{p:fM!} {k l i:Nat} (hk:k<ox!) (hl:l<=k) (hi:i<=k):at0 (bubble p k (k-l)) i=ak! i l (aB! k) (an! (l<i) (aB! (i-1)) (aB! i)):=by
 have e:=getElem?_bubble (xs:=p) (src:=k) hk (k-l) (by lia) i;simp only[at0,Array.getD_eq_getD_getElem?];rw[e];by_cases q:i=l;·rw[_g (by lia),_g q]
 ·rw[_o (by lia),_o q];by_cases q2:l<i;·rw[_g (by lia),_g q2]
  ·rw[_o (by lia),_o q2]
theorem zgO:∀(f k:Nat)(p:Array Nat),PmN N p->k+f=N->Asc lt p k->∃p',ed! N (kas_bin f p k)=b! p'/\PmN N p'/\Asc lt p' N
 | 0,k,p,P,hk,ha=>mS! p P (by rw[<- hk];exact ha) | f+1,k,p,P,hk,ha=>by
  obtain⟨l,e1,e2,e3,e4⟩:=z6j aD tr P (k:=k) (by lia) ha k 0 k gL! am! (by lia) (λi z=>pd! (by lia)) (λi z1 z2=>bO! z1 (by lia));have sz:=P.size;have P2:PmN N (bubble p k (k-l)):=P.of (bubble_perm _ _ _);have iE:Asc lt (bubble p k (k-l)) (k+1):=λi j h1 h2=>by
   rw[zlx (by lia) e2 (by lia),zlx (by lia) e2 (by lia)];by_cases qi:i=l
   ·rw[_g qi,_o (by lia),_g (by lia)];exact e4 (j-1) (by lia) (by lia)
   ·rw [_o qi];by_cases qj:j=l
    ·rw[_g qj,_o (by lia)];exact e3 i (by lia)
    ·rw[_o qj];by_cases q1:l<i
     ·rw[_g q1,_g (by lia)];exact ha _ _ (by lia) (by lia)
     ·rw[_o q1];by_cases q2:l<j
      ·rw[_g q2];by_cases q3:j-1=i;·lia
       ·exact ha _ _ (by lia) (by lia)
      ·rw[_o q2];exact ha _ _ h1 (by lia)
  obtain⟨p',g1,g2,g3⟩:=zgO f (k+1) _ P2 (by lia) iE;refine ck! p' ?_ g2 g3;rw[kas_bin,z0i,e1];exact g1
theorem zjP(hN:1<=N):∃p,ed! N (kas_sort N)=b! p/\qW! (iM! N)/\rX! (ds! i j):=by
 have P:PmN N (gv! N):=⟨by rfl⟩;obtain⟨m,p,e1,e2,e3,e4,e5⟩:=zgX aD tr P hN;have fin:∀p:Array Nat,PmN N p->Asc lt p N->rX! (ds! i j):=λp P ha=>by
  rw[List.pairwise_iff_getElem];intro i j hi hj aJ;have sz:=P.size;have gv:j<ox!:=by simpa using hj
  have:=ha i j aJ (by lia);rw[at0,at0,Array.getD,Array.getD,qP! (by lia),qP! gv]at this;simpa using this
 unfold kas_sort;rw[z0i,e1];simp only[_O];by_cases q:m<N
 ·rw[_g q];have hm:max m 1=m:=by lia
  rw[hm];obtain⟨p',g1,g2,g3⟩:=zgO aD tr (N-m) m p e2 (by lia) e3;exact⟨p',g1,g2.pm,fin p' g2 g3⟩
 ·rw[_o q];have:m=N:=by lia
  subst this;exact mS! p e2.pm (fin p e2 e3)
end
noncomputable def zq6(fin:Bool):h!->eB! h!
 | x::a,y::b=>ak! x y (zq6 fin a b) (eu! x y) | _,_=>fin
theorem zmI(f:Bool) (x y:Int) (a b:h!):zq6 f (x::a) (y::b)=ak! x y (zq6 f a b) (eu! x y):=V!
theorem zmB:∀ns ms:List Int,zq6 (eu! e1! ms.length) ns ms=gU! ns ms
 | [],[]=>by rfl | [],_::_=>by rfl | _::_,[]=>by rfl | x::a,y::b=>by simp only[zmI,lexN,_d,Nat.add_lt_add_iff_right,(zmB a b)]
def TupAt(h:Heap)(v:Value)(ns:h!):g!:=∃a o n us,v=ag!/\cK! a/\gp!=dR!/\ih!=.seq us n/\z0x us.toList ns/\a4! ns
inductive uk (h:Heap):bZ!->fr!->g! | nil:uk h [] [] | cons {v p vs ps}:TupAt h v p->uk h vs ps->uk h (v::vs) (p::ps)
theorem uk.length: ∀{vs ps},uk h vs ps->mI!:=λr=>by induction r with
 | nil=>rfl | cons _ _ ih=>exact _au (· + 1) ih
theorem uk.at_: ∀{vs ps},uk h vs ps->∀i,i<a5!->TupAt h (vs.getD i ab!) (gA! []):=λr=>by induction r with
 | nil=>exact eH! (bO! hi (Nat.not_lt_zero i)) | cons p _ ih=>
  intro i hi;cases i with
  | zero=>exact p | succ i=>exact ih i (_b8 hi)
theorem uk.mono(k:bJ! (cK! b->dK! b)):∀{vs ps},uk h vs ps->uk h' vs ps:=λr=>by induction r with
 | nil=>exact cD! | cons p _ ih=>
  refine eX! ?_ ih;obtain⟨a,o,n,us,e,g,q⟩:=p;exact⟨a,o,n,us,e,k _ _ g,q⟩
theorem uk.tups: ∀{vs ps},uk h vs ps->∃fs,KatTups h vs fs/\fs.length=a5!/\∀v∈fs,∃i t,v=ci! i:=λr=>by induction r with
 | nil=>exact fO! [] KatTups.nil (λv hv=>nomatch hv) | cons p _ ih=>
  obtain⟨a,o,n,us,rfl,g,c,d,i,z⟩:=p;obtain⟨fs,k,l,m⟩:=ih;obtain⟨ul⟩:=us;cases i with
  | nil=>exact fn! z | cons i'=>exact⟨_,KatTups.cons g c d rfl k,_au (· + 1) l,_cr.mpr ⟨ce! _,m⟩⟩
section
variable {prog:Program}{w:World}{A:Around}{E:b1!}{s:Shared}
theorem zkc: ∀{xs ys:List Value}{ns ms:List Int}(i:Nat),z0x xs ns->z0x ys ms->C (zq6 fin ns ms) s->KatLex ni! w A d! fin C (xs.zip ys) i s:=λ{xs ys ns ms} i r r'=>by induction r generalizing i ys ms with
 | nil=>exact λh=>kat_nil h | @cons x _ _ _ r ih=> cases r' with
  | nil=>exact λh=>kat_nil h | @cons y _ _ _ r'=>
   intro h;rw[zmI]at h;refine kat_cons (_cc (kat_go (λe=>kat_yes (ih (i+1) r' ?_)) λe=>kat_no ?_));·rwa [_g (by simpa using e)]at h
   ·rw[_o (by simpa using e)]at h;cases i with
    | zero=>exact oneLt_int h | succ i=>exact kat_one _ _ (PyProof.Rows.lt_int h)
theorem zo3(hv:TupAt L! v p)(hu:TupAt L! u q)(h:C (gU! p q) s):cG! w A (keyLt' ma! v u) C E s:=by
 obtain⟨a,o,n,us,rfl,g,c,d,i,_⟩:=hv;obtain⟨b,o',n',nX,rfl,g',c',d',i',_⟩:=hu;refine kat_lt g d g' d' (zkc 0 i i' ?_);rw[(show eu! us.size nX.size=eu! p.length q.length from by
  have:=i.length;have:=i'.length;simp only[_aZ]at *;simp[*]),zmB];exact h
theorem zi1(hp:uk L! vs ps)(h0:0<a5!)(h:Q ma! s):cG! w A (keyKind' e0!) Q E s:=by
 obtain⟨fs,k,l,m⟩:=hp.tups;refine kat_kind (T:=ar! eE!) k (by rw[l];exact h0) (λv hv=>?_) rfl h;obtain⟨i,t,rfl⟩:=m v hv;exact Looks.of_pure rfl
theorem zoZ{G:fM!->eL!}(h2:2<=n) (hG:∀p' ay s',p'.size=n->px! ay=p'.map (qV! it)->failedOf ay=a!->G p' s'->Q () ay s')(h:(qX! n (gv! n)).kasWp (kas_cmp ni! w A κ it) (λr s'=>r.1=n/\G r.2 s') s): kasC if! A E sortRuns' Q (qY! κ it (gv! n)) s:=by
 obtain⟨r,rfl⟩:∃r,n=r+2:=⟨n-2,by lia⟩;have iF:(gv! (r+2)).size=r+2:=by simp
 rw[sortRuns'_eq];refine pz! (kasC_get ?_);dsimp only;have bf:(px! (qY! κ it (gv! (r+2)))).size=r+2:=by
  show ((gv! (r+2)).map (qV! it)).size=_;rw[Array.size_map,iF]
 have iG:∀f m c,m+c<=r+2->1<=m->minRun' f m c<=r+2:=by
  intro f;induction f with
  | zero=>intro m c h _;exact h | succ f ih=>
   intro m c h h1;rw[minRun'_succ];split;·exact h
   ·exact ih _ _ (by lia) (by lia)
 have iG:=iG (r+2) (r+2) 0 am! (by lia);simp only[bf];generalize minRun' (r+2) (r+2) 0=mr at iG;refine pz! (kasC_range ?_);show kasC _ _ _ (forIn (0::1::os! 2 r) _ _) _ _ _;refine kasC_cons ?_;dsimp only;rw[_o (by lia)];simp only[_at];refine pz! (kas_count_ (by lia) (by rw[iF];exact am!) (λm p' s' k9 cj hp hg=>?_) h);have dN := hp.trans iF;obtain⟨em,nY⟩:=hg;have nZ := em;subst nZ;dsimp only;rw[_o (by lia)];refine pz! (kasC_get ?_);rw[show (pendingOf (qY! κ it p')).back? = a! from rfl];dsimp only;refine pz! (kasC_modify (kasC_pure ?_));show kasC _ _ _ (forIn (1::os! 2 r) _ _) _ _ _;refine kasC_cons ?_;dsimp only;rw[_g am!];refine kasC_pure ?_;dsimp only;refine pz! (kasC_range ?_);show kasC _ _ _ (forIn (0::1::os! 2 r) _ _) _ _ _;refine kasC_cons ?_;refine pz! (kasC_get ?_);rw[_g (show (pendingOf (setPending (qY! κ it p') (dg! (pendingOf (qY! κ it p')) (0,r+2,0)))).size<=1 from _l 1)];refine kasC_pure ?_;dsimp only;exact kasC_pure (hG p' _ _ dN rfl rfl nY)
def zqM(ps:fr!)(p:fM!):g!:= (a5!<2/\p=gv! a5!)\/ (2<=a5!/\a5!<64/\rE! (λi j=>gU! (gA! []) (o9! [])) rZ!=b! p)\/ (2<=a5!/\rE! (λi j=>gU! (gA! []) (o9! [])) (qX! a5! (gv! a5!))=b! (a5!,p))
theorem zjR{Q:SortSt->eL!} (hp:uk L! vs ps) (h2:2<=a5!) (hP:zqM ps p) (h:∀ay,ox!=dN!->px! ay=p.map (qV! kk!)->failedOf ay=a!->Q ay s): cG! w A ((sortRuns').run (SortSt.mk' ma! kk! #[] 7 a!)) (λr s'=>Q r.2 s') E s:=by
 have bI:=hp.length;have d9:∀i j (C:Bool->Shared->Prop),i<a5!->j<a5!->C (gU! (gA! []) (o9! [])) s->kas_ask ni! w A ma! vs i j C s:=λi j C hi hj hC=>zo3 (hp.at_ i hi) (hp.at_ j hj) hC;rcases hP with⟨z,_⟩ | ⟨_,fG,e⟩ | ⟨_,e⟩;·lia
 ·refine kat_run (G:=λq s'=>q=p/\s'=s) rfl (by lia) (by lia) (λq ay s' a1 a2 a3 a4=>?_) (zfa d9 _ p (by rw[bI];exact e) (cl! rfl));obtain⟨rfl,rfl⟩:=a4;exact h ay a1 a2 a3
 ·have hc:(qX! dN! (gv! dN!)).kasWp (kas_cmp ni! w A ma! kk!) (λr s'=>r.1=dN!/\(r.2=p/\s'=s)) s:=by
   rw[<- kat_ask_eq rfl];refine zfa d9 _ (a5!,p) (by rw[bI];exact e) (aH! bI.symm rfl)
  have run:=zoZ (E:=E) (Q:=λ_ ay s'=>Q ay s') (G:=λq s'=>q=p/\s'=s) (by lia) (λq ay s' a1 a2 a3 a4=>by obtain⟨rfl,rfl⟩:=a4;exact h ay a1 a2 a3) hc;have oa:SortSt.mk' ma! kk! #[] 7 a!=qY! ma! kk! (gv! dN!):=by
   have e:=kas_range kk!;rw[show (kk!).size=dN! by simp]at e;show SortSt.mk' ma! kk! #[] 7 a!=SortSt.mk' ma! ((gv! dN!).map (qV! kk!)) #[] 7 a!;rw[e]
  rw[oa];exact run
theorem zaB(ho:f3! a (mH! n)) (hp:∀h',(bJ! (b≠a->dx! b->dK! b))->uk h' vs ps) (ai:dN!<=aY!) (hP:zqM ps p) (h:P (.done (.ret ab!)) {s with heap:=sortedHeap L! a vs (z8h vs p)}):cG! w A (Builtin.«list.sort» (dT! [ag!])) P E s:=by
 have ha := _s ho;have bI := t! (hp L! λ_ _ _ e=>e);obtain⟨e1,g1⟩:∃e1,fi! (l2! a (bk! (#[]:cF!))) a (k2! #[] e1):=f9! (get?_update_seq ho (bk! #[]));have g2:fi! (dg! (dg! (l2! a (bk! (#[]:cF!))) (o7! 0)) (k2! #[] 0)) a (k2! #[] e1):=_i _ (_i _ g1);have ec:uk (dg! (dg! (l2! a (bk! (#[]:cF!))) (o7! 0)) (k2! #[] 0)) vs ps:=hp _ (kR! (_i _ (_i _ (aJ! ((_bM L! a (sT! (bk! (#[]:cF!)))).2 b hb) e))));rw[list_sort_plain];refine _a (listItems_at ho rfl (_a (_cn ho rfl (_a (_dc g1 rfl (_a (_cT (_a (_dr (_aT ?_) gL!)) ai)))) (by rw[_t];exact ai) gL!)));dsimp only;by_cases bO:vs.toArray.size<2
 ·rw[_g bO,_g bO];have small:dN!<2:=by simpa using bO
  have ep:p=gv! a5!:=by
   rcases hP with⟨_,z⟩ | ⟨z,_⟩ | ⟨z,_⟩;·exact z
   ·lia
   ·lia
  have eo:z8h vs p=e0!:=by
   rw[ep,<- bI];unfold z8h;congr 1;apply _aM;·simp
   ·intro i h1 h2;simp[h2]
  refine _a (_m (_a (_m ?_)));dsimp only;have fH:(px! (SortSt.mk' general' kk! #[] 7 a!)).map (·.2)=e0!:=by
   show ((kk!).map (·.2))=_;apply Array.ext_getElem?;intro i;by_cases hi:i<dN!<;>simp[hi]
  rw[fH];refine _a (_dc g2 rfl (_a (_cn g2 rfl ?_ gL! (by rw[_t];exact _bx ai))));simp only[_dd,_aV];rw[eo]at h;exact _m h
 ·rw[_o bO,_o bO];have b2:2<=a5!:=by rw[<- bI];simpa using bO
  refine _a (zi1 ec (by lia) ?_);refine _a (le! (zjR (Q:=λay s'=>ox!=dN!/\px! ay=p.map (qV! kk!)/\failedOf ay=a!/\s'={s with heap:=dg! (dg! (l2! a (bk! (#[]:cF!))) (o7! 0)) (k2! #[] 0)}) ec b2 hP λay a1 a2 a3=>ck! a1 a2 a3 rfl) ?_ z);rintro⟨⟨⟩,ay⟩ s' ⟨hq,iC,hf,rfl⟩;dsimp only;have fH:=kat_snds rfl iC;rw[fH,hf];refine _a (_dc g2 rfl (_a (_cn g2 rfl ?_ gL! (by rw[_t,_z,_aZ,hq];exact _bx ai))));simp only[_dd,_aV];exact _m h
theorem zfR(hl:s.heap.IsList l e0!) (hp:uk L! vs ps) (ai:dN!<=aY!) (hP:zqM ps p) (h:Q (y! dZ!) {s with heap:=sN! vs (z8h vs p)}): cG! w A (p8! ly! [eT!]) Q E s:=by
 refine Calls.call_function_entry kind_sorted plain_sorted entry_sorted (args_sorted1 _) ?_;unfold Builtin.«sorted»;refine _a (_m (_a (collect_list hl (_a (_dr ?_ (by simpa using ai))) (by simpa using ai))));have sz:eo! (oZ! (oV! #[] 0) (· ++ e0!))=dZ!:=by rw[Heap.size_update,size_push']
 have g:fi! (dg! (oZ! (oV! #[] 0) (· ++ e0!)) (mH! 0)) dZ! (mH! 0):=by
  rw[<- sz];exact hh!
 have keep:bJ! (dx! b->fi! (dg! (oZ! (oV! #[] 0) (· ++ e0!)) (mH! 0)) b o/\b≠dZ!):=λb o q=>by
  have lt := _s q;refine⟨?_,_E (_aX lt)⟩;rw[_b9 _ _ _ (by rw[sz];exact _E (_aX lt)),Heap.get?_update_ne _ _ _ _ (_E lt),_b9 _ _ _ (_E lt)];exact q
 show cG! w _ _ _ _ ({s with heap:=dg! (oZ! (oV! #[] 0) (· ++ e0!)) (mH! 0)});rw[sz];exact _a (_aT (_ax slot_list_sort (ce! g) entry_list_sort (zaB g (λh' k=>hp.mono λb o q=>k b o (keep b o q).2 (keep b o q).1) ai hP (aH! _ (_m (bQ! rfl h)))) (args_list_sort _)))
end
section
variable {X:Cx}{E:XK}
def zlG(K:W.Frag):aG!->Hp->eU!:=λxs H Q=>∃(l:Addr)(ys:List V)(ps:List (List Int))(p:Array Nat),xs=[eT!]/\SqL K H l ys/\qi! (λv ns=>AtN H v ns) ys ps/\(∀n∈ps,a4! n)/\zqM ps p/\ (∀i∈p.toList,i<cO!)/\sc! cO!/\∀r,H r=a!->Q (y! r) (cf! r (X! (ko! (rH! i))))
theorem zoC{O:L2.St} (I:N!):∀{ys:List V}{af:List Value}{ps:List (List Int)},xt ys af->qi! (λv ns=>AtN H v ns) ys ps->(∀n∈ps,a4! n)->uk L! af ps:=λ{ys af ps} r p hn=>by induction p generalizing af with
 | nil=>cases r;exact cD! | cons a p ih=>
  cases r with | cons r rs=>?_;refine eX! ?_ (ih rs λn hm=>hn n (.tail _ hm));obtain⟨b,af,rfl,rfl,⟨o,g,c,k,d⟩,z⟩:=a.tuple I r;exact⟨b,o,k,af,rfl,g,c,d,z,hn _ iA!⟩
theorem zfx:jR! X ly! (zlG X.K):=by
 intro ae s O H xs us Q I r h;obtain⟨l,ys,ps,p,rfl,hq,hp,hn,hP,cr,au,q⟩:=h;obtain⟨u,rfl,rx⟩:=lj!;cases rx;obtain⟨af,r',pl,hz⟩:=mh!;have ap:=r'.length;refine zfR (ps:=ps) (p:=p) pl.isList (zoC I r' hp hn) (by lia) hP ?_;obtain⟨c',e⟩:=sortedAll_at L! af (z8h af p);refine⟨y! dZ!,_,I.laid (t':=s.toks) (λb o z=>sortedAll_old z) (_cq _) (show kC aV! X.w _ (sN! af (z8h af p)) _ (X! (ko! (rH! i))) from⟨?_,_,c',z9I r' p.toList cr,e⟩),rfl,q _ (sn! (_cq _))⟩;rw[_z,au];exact hz
noncomputable def zrq(L:fr!):bq! fM!:= an! (aE!<2) (b! (gv! aE!)) (an! (aE!<64) (kev aE! (λi j=>gU! (cE! i) (cE! j)) (kas_sort aE!)) (match kev aE! (λi j=>gU! (cE! i) (cE! j)) (qX! aE! (gv! aE!)) with
  | some (m,p)=>ir! (m=aE!) (b! p) | none=>none))
theorem zhk(h:zrq L=b! p):zqM L p:=by
 unfold zrq at h;split at h;·rename_i q;exact C! ⟨q,(_p h).symm⟩
 ·split at h;·rename_i q1 q2;exact T! (C! ⟨by lia,q2,h⟩)
  ·split at h
   ·rename_i m q e;split at h
    ·rename_i em;cases h;subst em;exact iu! ⟨by lia,e⟩
    ·cases h
   ·cases h
noncomputable def z8I(s:Sto)(d:D):bq! x!:=match mm! d with
 | some xs=>match zcX xs with
  | some L=>match zrq L with
   | some p=>ir! (L.all (λn=>!n.isEmpty)=d!/\p.toList.all (λi=>eu! i w!)=d!/\sc! w!) (b! (ko! (xs.getD i aA!))) | none=>none
  | none=>none
 | none=>none
noncomputable def zt7:Mir:=λds s=>match ds with
 | [d]=>match z8I s d with | some ys=>ae! (dj! ys) (gE! (s++[ys])) | none=>.no
 | _=>.no
noncomputable def zbj:Mir:=λds s=>match ds with
 | [d]=>match z8I s d with | some ys=>k! hz! | none=>.no
 | _=>.no
theorem zot(r:Rep M! H Y s)(dn:Den M! H Y d v)(e:z8I s d=b! ys)(q:∀vs,yo M! H Y ys vs->∀a,H a=a!->Q ag! (cf! a bT!)):zlG X.K [v] H Q:=by
 unfold z8I at e;split at e
 ·rename_i xs ex;split at e
  ·rename_i L eL;split at e
   ·rename_i p ep;split at e
    ·rename_i hp;cases e;obtain⟨a,ws,rfl,q1,q2⟩:=yt r ex dn;have hl:=q2.length;have cr:∀i∈p.toList,i<w!:=eH! (by simpa using _Q.mp hp.2.1 i hi)
     exact⟨a,ws,L,p,rfl,C! q1,zcM eL q2,(λn hn z=>by have:=_Q.mp hp.1 n hn;rw[z]at this;cases this),zhk ep,eH! (by have:=cr i hi;lia),by rw[hp.2.2];lia,q _ (zar q2 _ cr)⟩
    ·cases e
   ·cases e
  ·cases e
 ·cases e
theorem zoS:∃r,jR! X ly! r/\z2A X E r zbj:=km! zfx.freeze (by
 unfold zbj at h;split at h
 ·rename_i d;split at h
  ·rename_i ys e;obtain⟨v,rfl,dn⟩:=lw!;exact zot r dn e λvs dv=>z0N r h dv
  ·exact h.elim
 ·exact h.elim)
end
end Dd
namespace Pg
open L2 Dd
noncomputable def z3o:bU! Str:=[("next",nb!),("least",nc!),(jx!,nd!),(gn!,ne!)]
@[simp] noncomputable def zcl:FS:=(xb (zcS (eIs eE! u!) (zsl (qa! u!))))
noncomputable def zdf:FS:=zcl
noncomputable def vF:Mir:=c0! c5! zdf
@[simp] noncomputable def zcE:FS:=(xb (zcS (k6! u!) (zfl dLe dLe (E! 2) ch! (E! 4))))
noncomputable def jl:FS:=zcE
noncomputable def xa:Mir:=c0! c5! jl
@[simp] noncomputable def z8i:FS:=(xb iG!)
@[simp] noncomputable def z8q:FS:=(a2! (js! (k6! u!) (eS! ch! r!)) z8i)
@[simp] noncomputable def z2j:FS:=(xb (aM! zgq (i7! cW! [a!] 0 (a8! vF))))
noncomputable def qO:FS:=(zy z8q z2j)
noncomputable def zN:Mir:=cL! [iW!,"many"] qO
@[simp] noncomputable def uA:FS:=(zsj 0 1 (cc! r! (dz! zeK 0 r!)))
@[simp] noncomputable def kD:FS:=(z2e (ev! 1 A!) uA)
@[simp] noncomputable def z4g:FS:=(xb u!)
noncomputable def z0G:FS:=(zy kD z4g)
noncomputable def vT:Mir:=cL! m5! z0G
@[simp] noncomputable def zgg:FS:=(xb iG!)
@[simp] noncomputable def z4t:FS:=(a2! (js! (a8! xa) (eR! (da! zN ch!))) zgg)
@[simp] noncomputable def z95:FS:=(xb (zcS (eOp dGe (a8! z6t) A!) (eOp dGt (a8! vY) A!)))
noncomputable def z6z:FS:=(zy z4t z95)
noncomputable def xl:Mir:=c0! c5! z6z
@[simp] noncomputable def zb6:FS:=fNo
@[simp] noncomputable def zbY:FS:=(a2! (eR! (a8! xl)) zb6)
noncomputable def z7w:FS:=zbY
noncomputable def yP:Mir:=c0! c5! z7w
@[simp] noncomputable def zaA:FS:=(a2! (eR! (a8! xl)) (z9f hj!))
noncomputable def z4H:FS:=zaA
noncomputable def vy:Mir:=kU c5! 1 z4H
@[simp] noncomputable def zfK:FS:=(wq (a8! yP))
@[simp] noncomputable def z9p:FS:=(yw 1 A!)
@[simp] noncomputable def z3P:FS:=(yw 1 (gz! vT 1 2))
@[simp] noncomputable def z4n:FS:=(hg! cW! 2 z3P)
@[simp] noncomputable def z94:FS:=(xb r!)
noncomputable def zc9:FS:=(zy zfK (a6! z9p z4n z94))
noncomputable def z61:Mir:=c0! [aj!,in!,hS!] zc9
@[simp] noncomputable def ze4:FS:=(wq (a8! vy))
noncomputable def zgi:FS:=(zy ze4 (a6! (ki z9p) (ki z4n) (ki z94)))
noncomputable def z68:Mir:=kU [aj!,in!,hS!] 1 zgi
@[simp] noncomputable def zaz:FS:=(wq (a8! yP))
@[simp] noncomputable def z3m:FS:=(xb (eOp dEq (aM! yC (i6! cW! [a!] 0 (ev! 0 A!) u!)) ah!))
noncomputable def z4F:FS:=(zy zaz z3m)
noncomputable def xN:Mir:=c0! h5! z4F
@[simp] noncomputable def zbV:FS:=(xb (aM! znc (zt (z5b (hY! 0 1)) jp! (yS 0 1) zU (fS! 0 r!))))
noncomputable def z6q:FS:=zbV
noncomputable def xY:Mir:=cL! [cw!,kX!] z6q
@[simp] noncomputable def z1R:FS:=(xb (dr! (jV (a0! ch!)) (F! 0) 1 (dr! cW! (F! 1) 1 (gC! 1))))
noncomputable def z2X:FS:=z1R
noncomputable def yZ:Mir:=c0! [eI!] z2X
@[simp] noncomputable def z6V:FS:=(yw 3 (bf! (gh! u! r!) (fg! u! (fQ! 1))))
@[simp] noncomputable def z7b:FS:=(xb (dr! kO! (F! 2) 1 (bf! (gh! r! u!) (fg! r! (fQ! 0)))))
noncomputable def z9w:FS:=(zy z6V z7b)
noncomputable def xT:Mir:=Mof [jK!,"at_line",qZ!,"kept"] 3 z9w
@[simp] noncomputable def zd0:FS:=(xb (eIf (hs! dEq (eOp zeK (i5! 0 r!) (E! 2)) A!) ah! ea!))
noncomputable def z9b:FS:=zd0
noncomputable def wB:Mir:=cL! [cw!,lR!] z9b
@[simp] noncomputable def z1d:FS:=(yw 1 (eLR (b9! 0)))
@[simp] noncomputable def z11:FS:=(xb (dr! (zQ r!) (F! 1) 1 (dr! cW! (F! 1) 1 (eIf (dn! dEq 0 r!) ah! A!))))
noncomputable def z21:FS:=(zy z1d z11)
noncomputable def xS:Mir:=c0! [mw!,lS!] z21
@[simp] noncomputable def z7Y:FS:=(xb (dr! cW! (F! 1) 1 (gz! xY 1 0)))
noncomputable def z2m:FS:=z7Y
noncomputable def xO:Mir:=cL! [jK!,kX!] z2m
@[simp] noncomputable def zaH(Mr:Mir):FS:=(xb (co! (hG! 0) A!))
@[simp] noncomputable def z9E(Mr:Mir):FS:=(a2! (hs! dEq ch! ah!) (zaH Mr))
@[simp] noncomputable def z39(Mr:Mir):FS:=(xb (aM! znc (zt (z2M (a0! (hG! 0))) (dE! 0) (yS 1 2) zU (gF! (gF! (es! wB A! r!) P!) (aM! Mr (ze xT (zb u! (ip! A! 1))))))))
noncomputable def z1f(Mr:Mir):FS:=(zy (z9E Mr) (z39 Mr))
def yJ:Nat->Mir
 | 0=>λ_ _=>.no | k+1=>c0! [jK!] (z1f (yJ k))
noncomputable def xH:Mir:=yJ 4
@[simp] noncomputable def zcw:FS:=(xb iG!)
@[simp] noncomputable def zcA:FS:=(a2! (eR! (a8! xa)) zcw)
@[simp] noncomputable def z5e:FS:=(xb (aM! zgq (i7! cW! (F! 0) 1 (es! zN r! ch!))))
noncomputable def z7j:FS:=(zy zcA z5e)
noncomputable def uv:Mir:=c0! c5! z7j
@[simp] noncomputable def z8d:FS:=fNo
@[simp] noncomputable def z8z:FS:=(a2! (eR! (a8! uv)) z8d)
noncomputable def z32:FS:=z8z
noncomputable def yN:Mir:=c0! c5! z32
@[simp] noncomputable def z6y:FS:=(a2! (eR! (a8! uv)) (z9f jy!))
noncomputable def z8E:FS:=z6y
noncomputable def z14:Mir:=kU c5! 1 z8E
@[simp] noncomputable def z8C:FS:=(wq (a8! yN))
@[simp] noncomputable def z8c:FS:=(wq (jj! yN))
@[simp] noncomputable def z8o:FS:=fNo
@[simp] noncomputable def z8H:FS:=(a2! (eS! ch! h9!) z8o)
@[simp] noncomputable def z2n:FS:=(xb (aM! yZ (dr! (zQ (jj! yZ)) (F! 0) 1 (cM! xO))))
noncomputable def z3t:FS:=(zy z8C (a6! z8c z8H z2n))
noncomputable def vz:Mir:=cL! m5! z3t
@[simp] noncomputable def z88:FS:=(wq (a8! yN))
@[simp] noncomputable def kw:FS:=(xb (a8! xH))
noncomputable def z30:FS:=(zy z88 kw)
noncomputable def vB:Mir:=c0! [eI!] z30
@[simp] noncomputable def z7G:FS:=(wq (a8! z14))
noncomputable def z8t:FS:=(zy z7G (ki kw))
noncomputable def z17:Mir:=kU [eI!] 1 z8t
@[simp] noncomputable def z7h:FS:=(yw 1 (a8! vB))
@[simp] noncomputable def z7M:FS:=fNo
@[simp] noncomputable def z6w:FS:=(a2! (zlT (ev! 1 ah!) (ev! 1 ea!)) z7M)
@[simp] noncomputable def jp:FS:=(yw 2 (eLR (a0! ch!)))
@[simp] noncomputable def jm:FS:=(xb (dr! (zQ P!) (fv! 2 1 0) 3 (dr! cW! (fv! 1 3 2) 3 (gF! (fS! 0 (gz! wB 1 3)) (aM! xH (ze xT (fB! P! 3 1)))))))
noncomputable def z25:FS:=(zy z7h (a6! z6w jp jm))
noncomputable def qU:Mir:=c0! [eI!,oy!,lS!] z25
@[simp] noncomputable def z5l:FS:=(yw 1 (a8! z17))
@[simp] noncomputable def z5n:FS:=(a2! (zlT (ev! 1 ah!) (ev! 1 ea!)) (z9f jz!))
noncomputable def z7Z:FS:=(zy z5l (a6! z5n (ki jp) (ki jm)))
noncomputable def qR:Mir:=kU [eI!,oy!,lS!] 1 z7Z
@[simp] noncomputable def wW:FS:=(yw 2 (zaQ (a0! (a8! xS))))
@[simp] noncomputable def xr:FS:=(wq (zdv P! (es! vz (di! 2 ea!) bp!)))
@[simp] noncomputable def wU:FS:=(hg! (zQ r!) 3 xr)
@[simp] noncomputable def qJ:FS:=(xb P!)
noncomputable def ji:FS:=(a6! wW wU qJ)
noncomputable def wn:Mir:=cL! [mw!,nw!,"products",eI!] ji
noncomputable def z1L:FS:=(a6! (ki wW) (ki wU) (ki qJ))
noncomputable def wm:Mir:=kU [mw!,nw!,"products",eI!] 2 z1L
@[simp] noncomputable def vJ:FS:=(yw 1 (zmF u! (a8! vY)))
@[simp] noncomputable def vN:FS:=(xb (dL! r! (bf! (bf! (gh! u! r!) (vj (a0! A!))) (fg! u! (fQ! 1)))))
noncomputable def um:FS:=(zy vJ vN)
noncomputable def ya:Mir:=c0! [aj!,"at"] um
@[simp] noncomputable def z1m:FS:=(xb (zmF u! (aM! z6t (i6! cW! [a!] 0 (ev! 0 A!) u!))))
noncomputable def z1P:FS:=z1m
noncomputable def xp:Mir:=c0! h5! z1P
@[simp] noncomputable def z6W:FS:=(xb (i6! (jV (a0! ch!)) (F! 1) 1 (ev! 1 u!) r!))
noncomputable def z8O:FS:=z6W
noncomputable def qo:Mir:=cL! [aj!,q0!] z8O
@[simp] noncomputable def zdC:FS:=(xb (zcS (eIs go! u!) (zim z3o q! u!)))
noncomputable def z8R:FS:=zdC
noncomputable def vQ:Mir:=c0! c5! z8R
@[simp] noncomputable def zbG:FS:=(xb (eIf (dn! dEq 0 (bL! gn!)) (bf! (fg! r! ah!) (gh! r! ah!)) r!))
noncomputable def zfg:FS:=zbG
noncomputable def z01:Mir:=cL! [cx!,kX!] zfg
@[simp] noncomputable def zdS:FS:=(zgj (a8! ya) (yS 1 2))
@[simp] noncomputable def z7F:FS:=(xb (dL! (zmF P! (e5! vY 2)) (qg (b9! 1))))
noncomputable def z8Y:FS:=(zy zdS z7F)
noncomputable def jf:Mir:=c0! [aj!,q1!,q2!] z8Y
@[simp] noncomputable def zba:FS:=(zgj (a8! ya) (yS 1 2))
@[simp] noncomputable def zbW:FS:=(xb (dL! (e5! xp 2) (qg (b9! 1))))
noncomputable def z7v:FS:=(zy zba zbW)
noncomputable def uy:Mir:=c0! [aj!,q1!,q2!] z7v
@[simp] noncomputable def zfV:FS:=(yw 1 (a8! xp))
@[simp] noncomputable def zfN:FS:=(xb (dL! r! (cM! qo)))
noncomputable def zci:FS:=(zy zfV zfN)
noncomputable def z0g:Mir:=c0! [aj!,ho!] zci
@[simp] noncomputable def zdj:FS:=(xb (dL! A! (qg zi)))
@[simp] noncomputable def zdg:FS:=(a2! (hs! dEq (hG! 0) A!) zdj)
@[simp] noncomputable def zdX:FS:=(xb (dL! A! (da! qo A!)))
noncomputable def z9j:FS:=(zy zdg zdX)
noncomputable def jk:Mir:=c0! h5! z9j
@[simp] noncomputable def zak:FS:=fNo
@[simp] noncomputable def zam:FS:=(a2! (eR! (a8! vQ)) zak)
noncomputable def z54:FS:=zam
noncomputable def uG:Mir:=c0! c5! z54
@[simp] noncomputable def z27:FS:=(a2! (eR! (a8! vQ)) (z9f hk!))
noncomputable def z3C:FS:=z27
noncomputable def uI:Mir:=kU c5! 1 z3C
@[simp] noncomputable def zce:FS:=(yw 2 (zu8 z3o u!))
@[simp] noncomputable def z4Z:FS:=(zgj (zet 2 [(nb!,jf),(nc!,uy),(nd!,z0g),(ne!,jk)] (b9! 1)) (yS 3 4))
@[simp] noncomputable def z5a:FS:=(xb (dL! bp! (i7! (jV (a0! h9!)) (fv! 4 1 3) 3 (eIf (dn! (zb0 q!) 3 u!) (eOp z45 (ax! 1 3) (ax! 1 2)) A!))))
noncomputable def z86:FS:=(a6! zce z4Z z5a)
noncomputable def vE:Mir:=cL! [cx!,aj!,"deal",ho!,"divided"] z86
@[simp] noncomputable def z0M:FS:=(wq (a8! uG))
@[simp] noncomputable def z13:FS:=(wq (jj! yP))
noncomputable def qB:FS:=(zy z0M z13)
noncomputable def yc:Mir:=cL! do! qB
@[simp] noncomputable def uj:FS:=(wq (a8! uI))
@[simp] noncomputable def ut:FS:=(wq (jj! vy))
noncomputable def wE:FS:=(zy uj ut)
noncomputable def zA:Mir:=kU do! 2 wE
@[simp] noncomputable def zaJ:FS:=(wq (cM! yc))
@[simp] noncomputable def z9V:FS:=fNo
@[simp] noncomputable def zax:FS:=(a2! (tOf (jj! xN)) z9V)
noncomputable def z5c:FS:=(zy zaJ zax)
noncomputable def wH:Mir:=cL! do! z5c
@[simp] noncomputable def zjF:FS:=(wq (cM! wH))
@[simp] noncomputable def zjI:FS:=(zgj (cM! vE) (yS 2 3))
@[simp] noncomputable def zfk:FS:=(yw 4 (aM! zV (zt (z5b (hY! 1 3)) (fp! 1 2 a!) (yS 2 3) zU (kK! 2 (fS! 3 (ax! 0 1))))))
@[simp] noncomputable def zeJ:FS:=(xb (gz! z01 0 4))
noncomputable def zia:FS:=(zy zjF (a6! zjI zfk zeJ))
noncomputable def M_step:Mir:=cL! [cx!,aj!,ho!,lT!,"left"] zia
@[simp] noncomputable def z8b:FS:=(wq (cM! wH))
@[simp] noncomputable def z8p:FS:=(zgj (cM! vE) (yS 2 3))
@[simp] noncomputable def z2h:FS:=(xb (aM! zV (zt (z5b (ip! (aM! xS h9!) 3)) (fp! 0 2 a!) (yS 2 3) zU (da! z01 (bf! (bf! (gh! P! r!) (vj (a0! (bf! (ax! 2 1) bp!)))) (fg! P! (fQ! 1)))))))
noncomputable def z3p:FS:=(a6! z8b z8p z2h)
noncomputable def vA:Mir:=cL! [cx!,aj!,ho!,lT!] z3p
@[simp] noncomputable def zmU:FS:=(wq (cM! yc))
@[simp] noncomputable def zdH:FS:=(yw 2 (zaQ (b9! 1)))
@[simp] noncomputable def z9Y:FS:=(wq (zdv P! (da! M_step (di! 2 ea!))))
@[simp] noncomputable def zhT:FS:=(z2e (eR! (aM! xN (di! 2 ea!))) z9Y)
@[simp] noncomputable def zgx:FS:=(xb P!)
noncomputable def zmm:FS:=(zy zmU (a6! zdH zhT zgx))
noncomputable def zjy:Mir:=cL! [cx!,aj!,"lots"] zmm
@[simp] noncomputable def zkn:FS:=(wq (cM! zA))
noncomputable def zhX:FS:=(zy zkn (a6! (ki zdH) (ki zhT) (ki zgx)))
noncomputable def X_run:Mir:=kU [cx!,aj!,"lots"] 2 zhX
@[simp] noncomputable def jR:FS:=(xb (z1U (zQ (gh! (z5w (cM! X_run)) ea!)) (F! 0) (yh 1) zU (cM! vA)))
noncomputable def z0e:FS:=jR
noncomputable def xQ:Mir:=kU do! 2 z0e
@[simp] noncomputable def qA:FS:=(yw 2 (z5w (cM! xQ)))
@[simp] noncomputable def z0J:FS:=(xb (es! wm h9! P!))
noncomputable def jr:FS:=(zy qA z0J)
noncomputable def yX:Mir:=kU [cx!,aj!,nw!] 2 jr
@[simp] noncomputable def qu:FS:=(xb (co! (z5w (cM! yX)) ea!))
noncomputable def jc:FS:=qu
noncomputable def xo:Mir:=kU do! 2 jc
@[simp] noncomputable def zdw:FS:=(xb (zcS (es! zN r! ch!) (eOp dEq (gz! xY 1 0) P!)))
noncomputable def z3U:FS:=zdw
noncomputable def ua:Mir:=Mof [aj!,iW!,hS!] 3 z3U
@[simp] noncomputable def z8w:FS:=(wq (a8! yP))
@[simp] noncomputable def z8r:FS:=(xb iG!)
@[simp] noncomputable def uX:FS:=(a2! (js! (k6! r!) (eS! h9! (E! 3))) z8r)
@[simp] noncomputable def z1X:FS:=(zgj r! (zpb 2 3 4))
@[simp] noncomputable def z2k:FS:=(xb iG!)
@[simp] noncomputable def xZ:FS:=(a2! (js! (e5! vF 2) (fOr (dn! dLe 2 A!) (eR! (es! zN bp! ch!)))) z2k)
@[simp] noncomputable def uS:FS:=(xb (zcS (eOp dEq (dr! kO! (F! 2) 1 (fS! 0 r!)) u!) (ze ua (fB! u! 4 2))))
noncomputable def z0c:FS:=(dB! z8w uX z1X xZ uS)
noncomputable def xj:Mir:=cL! [aj!,iW!,in!,lT!,cw!] z0c
@[simp] noncomputable def z6l:FS:=(wq (a8! vy))
@[simp] noncomputable def z7d:FS:=(zgj r! (zpb 2 3 4))
@[simp] noncomputable def z7B:FS:=(a2! (js! (e5! vF 2) (fOr (dn! dLe 2 A!) (eR! (es! zN bp! ch!)))) (ki z2k))
@[simp] noncomputable def z7X:FS:=(xb (zcS (eOp dEq (dr! kO! (F! 2) 1 (fS! 0 r!)) u!) (ze ua (fB! u! 4 2))))
noncomputable def z1T:FS:=(dB! z6l (ki uX) z7d z7B z7X)
noncomputable def wD:Mir:=kU [aj!,iW!,in!,lT!,cw!] 2 z1T
@[simp] noncomputable def z7t:FS:=(xb (aM! qR (cM! xo)))
noncomputable def ku:FS:=z7t
noncomputable def xi:Mir:=kU do! 2 ku
@[simp] noncomputable def z58:FS:=(xb (co! (i6! (zQ (cM! xi)) (F! 1) 1 (eS! (gz! xY 1 0) A!) r!) A!))
noncomputable def z2o:FS:=z58
noncomputable def qk:Mir:=kU do! 2 z2o
@[simp] noncomputable def z2C:FS:=(xb (vj (zb bp! (ip! (dr! (zQ r!) (F! 3) 1 (dz! z45 1 u!)) 2))))
@[simp] noncomputable def zbR:FS:=(yw 2 (cM! qk))
@[simp] noncomputable def zbT:FS:=(yw 3 (jj! z68))
noncomputable def z2s:FS:=(a6! zbR zbT (ki z2C))
noncomputable def ug:Mir:=kU [cx!,aj!,cw!,in!] 2 z2s
@[simp] noncomputable def z0A:FS:=(xb (ax! 0 1))
@[simp] noncomputable def qt:FS:=(a2! (dn! dLt 1 ch!) z0A)
@[simp] noncomputable def z5q:FS:=(xb A!)
noncomputable def z0Y:FS:=(zy qt z5q)
noncomputable def uR:Mir:=cL! [lU!,pA!] z0Y
@[simp] noncomputable def z4U:FS:=(yw 2 A!)
@[simp] noncomputable def z1z:FS:=(yw 2 (i5! 2 (fS! 3 (zd 4))))
@[simp] noncomputable def z1a:FS:=(z5X (z5b (hY! 0 1)) (yS 3 4) z1z)
@[simp] noncomputable def zc2:FS:=(xb P!)
noncomputable def z6D:FS:=(a6! z4U z1a zc2)
noncomputable def kH:Mir:=cL! [eq!,d5!,pB!,q3!,lV!] z6D
@[simp] noncomputable def z2c:FS:=(xb (eOp dEq (aM! yC (i6! cW! [a!] 0 (dn! dGt 0 A!) u!)) ah!))
noncomputable def z3B:FS:=z2c
noncomputable def xE:Mir:=c0! [bP!] z3B
@[simp] noncomputable def zbC:FS:=(yw 1 A!)
@[simp] noncomputable def z18:FS:=(yw 3 P!)
@[simp] noncomputable def z1w:FS:=(zsj 1 3 (cc! bp! (dz! zeK 1 bp!)))
@[simp] noncomputable def z0T:FS:=(z2e (ev! 3 A!) z1w)
@[simp] noncomputable def zbu:FS:=(hg! cW! 2 (zy z18 z0T))
@[simp] noncomputable def zcz:FS:=(xb r!)
noncomputable def z7k:FS:=(a6! zbC zbu zcz)
noncomputable def z1G:Mir:=c0! [kY!,gs!,b8!,d5!] z7k
@[simp] noncomputable def zc4:FS:=(yw 2 (zaQ zi))
@[simp] noncomputable def zbi:FS:=(yw 4 A!)
@[simp] noncomputable def zc8:FS:=(yw 4 (i5! 4 (fS! 5 (zd 6))))
@[simp] noncomputable def zbB:FS:=(z5X (z5b (hY! 3 1)) (yS 5 6) zc8)
@[simp] noncomputable def zca:FS:=(wq (zdv P! (zd 4)))
@[simp] noncomputable def zcv:FS:=(hg! cW! 3 (a6! zbi zbB zca))
@[simp] noncomputable def zbX:FS:=(xb (e5! zV 2))
noncomputable def zd6:FS:=(a6! zc4 zcv zbX)
noncomputable def z8V:Mir:=z5K (cL! [jL!,kY!,gs!,gt!,pB!,eq!,d5!] zd6)
@[simp] noncomputable def z1r:FS:=(yw 2 (zaQ zi))
@[simp] noncomputable def vR:FS:=(yw 4 A!)
@[simp] noncomputable def je:FS:=(yw 4 (i5! 4 (fS! 5 (zd 6))))
@[simp] noncomputable def vZ:FS:=(z5X (z5b (hY! 3 1)) (yS 5 6) je)
@[simp] noncomputable def wF:FS:=(wq (zdv P! (zd 4)))
@[simp] noncomputable def z1p:FS:=(hg! cW! 3 (a6! vR vZ wF))
@[simp] noncomputable def jb:FS:=(xb (e5! zV 2))
noncomputable def z1Y:FS:=(a6! z1r z1p jb)
noncomputable def vO:Mir:=z5K (cL! ["_law_table_here",kY!,gs!,gt!,pB!,eq!,d5!] z1Y)
@[simp] noncomputable def z1O:FS:=(xb (dr! (eA! 0) (F! 0) 1 (dr! (eA! 0) (F! 1) 1 (aM! ze9 (dz! dEq 0 r!)))))
noncomputable def z3h:FS:=z1O
noncomputable def xC:Mir:=c0! [f0!] z3h
@[simp] noncomputable def z52:FS:=(xb (zaQ (a0! (kK! 0 (eOp zcT (E! 10) (E! 18))))))
@[simp] noncomputable def jJ:FS:=(a2! (dn! dGe 0 (eOp zcT (E! 10) (E! 18))) z52)
@[simp] noncomputable def zcx:FS:=(yw 1 A!)
@[simp] noncomputable def z1g:FS:=(yw 3 (eOp zeK (gF! (bf! (bf! (dz! zeK 0 (E! pC!)) (gF! (E! 7919) P!)) ah!) (E! 48271)) (E! 2147483647)))
@[simp] noncomputable def z12:FS:=(yw 3 (eOp zeK (bf! (bf! (fS! 3 bp!) (gF! (E! 69621) P!)) (E! 7)) (E! lW!)))
@[simp] noncomputable def z1h:FS:=(yw 1 (bf! (fS! 1 (E! lW!)) bp!))
@[simp] noncomputable def z4W:FS:=(hg! (jV (a0! (E! 64))) 2 (a6! z1g z12 z1h))
@[simp] noncomputable def zcb:FS:=(xb (zaQ (b9! 1)))
noncomputable def z71:FS:=(zy jJ (a6! zcx z4W zcb))
noncomputable def z1C:Mir:=c0! ["_law_cell",b8!,"_law_j",oz!] z71
@[simp] noncomputable def z5r:FS:=(yw 2 ch!)
@[simp] noncomputable def z5z:FS:=(yw 3 (i7! (eA! 2) (fw! 0 1) 2 (da! z8V (i7! (zQ r!) (F! 2) 1 (gC! 1)))))
@[simp] noncomputable def z5m:FS:=(xb (dr! (eA! 2) (F! 3) 1 (dr! cW! (F! 1) 1 (gC! 1))))
noncomputable def z6m:FS:=(a6! z5r z5z z5m)
noncomputable def jX:Mir:=cL! [eq!,d5!,f0!,q4!] z6m
@[simp] noncomputable def vp:FS:=(yw 2 ch!)
@[simp] noncomputable def vt:FS:=(yw 3 (i7! (eA! 2) (fw! 0 1) 2 (da! vO (i7! (zQ r!) (F! 2) 1 (gC! 1)))))
@[simp] noncomputable def vm:FS:=(xb (dr! (eA! 2) (F! 3) 1 (dr! cW! (F! 1) 1 (gC! 1))))
noncomputable def js:FS:=(a6! vp vt vm)
noncomputable def wK:Mir:=cL! [eq!,d5!,f0!,q4!] js
@[simp] noncomputable def z8k:FS:=(xb (qg (dY! (bL! jx!) (eC lh!) (eC lo!) (bL! gn!) zi)))
noncomputable def z9Q:FS:=z8k
noncomputable def jF:Mir:=Mof [] 0 z9Q
@[simp] noncomputable def z08:FS:=(yw 2 h9!)
@[simp] noncomputable def qQ:FS:=(yw 3 (aM! z3W (zt (z2M (b9! 1)) jp! (yS 0 1) (dn! dGt 1 A!) (dL! r! u!))))
@[simp] noncomputable def z0b:FS:=(yw 4 (co! (i6! (eA! 2) (F! 1) 1 (hs! dEq (ax! 0 1) (a8! vY)) r!) A!))
@[simp] noncomputable def kY:FS:=(yw 5 (zgL jx! gn! (co! (hG! 3) ah!) A! u!))
@[simp] noncomputable def z0s:FS:=(yw 5 (co! (zt kO! (dE! 4) (yS 1 2) (ev! 2 u!) P!) A!))
@[simp] noncomputable def wJ:FS:=(a2! (dn! dEq 0 (eC lh!)) z0s)
@[simp] noncomputable def z07:FS:=(yw 6 (aM! vY (zt kO! (dE! 4) (yS 1 2) (ev! 2 u!) r!)))
@[simp] noncomputable def z0d:FS:=(yw 5 (co! (i6! (eA! 2) (fv! 6 4 1) 3 (zlT (hs! dEq (ax! 2 3) u!) (ev! 3 r!)) bp!) A!))
@[simp] noncomputable def wM:FS:=(a2! (dn! dEq 0 (eC lo!)) (zy z07 z0d))
@[simp] noncomputable def uP:FS:=(yw 7 (i6! (eA! 2) (F! 5) 1 (ev! 1 u!) r!))
@[simp] noncomputable def z29:FS:=(yw 7 (qg (b9! 4)))
@[simp] noncomputable def we:FS:=(a2! (dn! (zb0 q!) 0 (dL! (eC lo!) (eC lh!))) z29)
@[simp] noncomputable def wc:FS:=(yw 8 (eOp zfr (zaQ (a0! A!)) P!))
@[simp] noncomputable def z2d:FS:=(z1k (zd 8) (zd 9) (eOp z45 (ax! 1 9) (ax! 1 5)))
@[simp] noncomputable def xW:FS:=(a2! (hs! dGt (ax! 1 5) A!) z2d)
@[simp] noncomputable def qd:FS:=(hg! (zQ (zd 7)) 9 xW)
@[simp] noncomputable def xX:FS:=(yw 10 (zt (z2M (b9! 1)) [b! 8,b! 1,b! 5,a!,a!] (yS 3 4) zU (kK! 4 (gF! (ax! 0 3) (ax! 1 2)))))
@[simp] noncomputable def vf:FS:=(yw 11 (zaQ zi))
@[simp] noncomputable def wZ:FS:=(yw 12 (z1U (eA! 2) (F! 9) (yh 1) zU (aM! ze9 (dz! dEq 0 r!))))
@[simp] noncomputable def vg:FS:=(z1k (zd 12) (zd 5) (bf! (ax! 12 5) (ax! 8 9)))
@[simp] noncomputable def z2f:FS:=(yw 12 (bf! (fg! (zd 12) ah!) (gh! (zd 12) ah!)))
@[simp] noncomputable def vd:FS:=(a2! (dn! dEq 0 (bL! gn!)) z2f)
@[simp] noncomputable def vh:FS:=(wq (zdv (zd 11) (e5! zV 12)))
@[simp] noncomputable def wa:FS:=(hg! (eA! 2) 9 (zy wZ (a6! vg vd vh)))
@[simp] noncomputable def z23:FS:=(yw 10 (bf! (fg! (zd 10) ah!) (gh! (zd 10) ah!)))
@[simp] noncomputable def xV:FS:=(a2! (dn! dEq 0 (bL! gn!)) z23)
@[simp] noncomputable def wd:FS:=(xb (dL! (e5! zV 10) (e5! zV 11)))
noncomputable def z59:FS:=(a6! z08 qQ (dB! z0b kY wJ wM (dB! uP we wc qd (dB! xX vf wa xV wd))))
noncomputable def jj:Mir:=z5K (cL! [f1!,bP!,f0!,"_law_order",nx!,oA!,q5!,hp!,ny!,eJ!,oB!,"_law_lines",gt!] z59)
@[simp] noncomputable def z5p:FS:=(yw 2 h9!)
@[simp] noncomputable def z5t:FS:=(yw 3 (aM! z3W (zt (z2M (b9! 1)) jp! (yS 0 1) (dn! dGt 1 A!) (dL! r! u!))))
@[simp] noncomputable def z5G:FS:=(yw 4 (co! (i6! (eA! 2) (F! 1) 1 (hs! dEq (ax! 0 1) (a8! vY)) r!) A!))
@[simp] noncomputable def z5s:FS:=(yw 5 (zgL jx! gn! (co! (hG! 3) ah!) A! u!))
@[simp] noncomputable def z5E:FS:=(yw 5 (co! (zt kO! (dE! 4) (yS 1 2) (ev! 2 u!) P!) A!))
@[simp] noncomputable def z5N:FS:=(a2! (dn! dEq 0 (eC lh!)) z5E)
@[simp] noncomputable def z5C:FS:=(yw 6 (aM! vY (zt kO! (dE! 4) (yS 1 2) (ev! 2 u!) r!)))
@[simp] noncomputable def z5u:FS:=(yw 5 (co! (i6! (eA! 2) (fv! 6 4 1) 3 (zlT (hs! dEq (ax! 2 3) u!) (ev! 3 r!)) bp!) A!))
@[simp] noncomputable def z5k:FS:=(a2! (dn! dEq 0 (eC lo!)) (zy z5C z5u))
@[simp] noncomputable def z4o:FS:=(yw 7 (i6! (eA! 2) (F! 5) 1 (ev! 1 u!) r!))
@[simp] noncomputable def z43:FS:=(yw 7 (qg (b9! 4)))
@[simp] noncomputable def z4i:FS:=(a2! (dn! (zb0 q!) 0 (dL! (eC lo!) (eC lh!))) z43)
@[simp] noncomputable def z4u:FS:=(yw 8 (eOp zfr (zaQ (a0! A!)) P!))
@[simp] noncomputable def z3X:FS:=(z1k (zd 8) (zd 9) (eOp z45 (ax! 1 9) (ax! 1 5)))
@[simp] noncomputable def z49:FS:=(a2! (hs! dGt (ax! 1 5) A!) z3X)
@[simp] noncomputable def z4h:FS:=(hg! (zQ (zd 7)) 9 z49)
@[simp] noncomputable def z4c:FS:=(yw 10 (zt (z2M (b9! 1)) [b! 8,b! 1,b! 5,a!,a!] (yS 3 4) zU (kK! 4 (gF! (ax! 0 3) (ax! 1 2)))))
@[simp] noncomputable def z3Z:FS:=(yw 11 (zaQ zi))
@[simp] noncomputable def z4f:FS:=(yw 12 (z1U (eA! 2) (F! 9) (yh 1) zU (aM! ze9 (dz! dEq 0 r!))))
@[simp] noncomputable def z48:FS:=(z1k (zd 12) (zd 5) (bf! (ax! 12 5) (ax! 8 9)))
@[simp] noncomputable def z4r:FS:=(yw 12 (bf! (fg! (zd 12) ah!) (gh! (zd 12) ah!)))
@[simp] noncomputable def z3O:FS:=(a2! (dn! dEq 0 (bL! gn!)) z4r)
@[simp] noncomputable def z3Q:FS:=(wq (zdv (zd 11) (e5! zV 12)))
@[simp] noncomputable def z3S:FS:=(hg! (eA! 2) 9 (zy z4f (a6! z48 z3O z3Q)))
@[simp] noncomputable def z4b:FS:=(yw 10 (bf! (fg! (zd 10) ah!) (gh! (zd 10) ah!)))
@[simp] noncomputable def z4p:FS:=(a2! (dn! dEq 0 (bL! gn!)) z4b)
@[simp] noncomputable def z4w:FS:=(xb (dL! (e5! zV 10) (e5! zV 11)))
noncomputable def z6A:FS:=(a6! z5p z5t (dB! z5G z5s z5N z5k (dB! z4o z4i z4u z4h (dB! z4c z3Z z3S z4p z4w))))
noncomputable def z20:Mir:=z5K (cL! [f1!,bP!,f0!,"_law_order",nx!,oA!,q5!,hp!,ny!,eJ!,oB!,nz!,gt!] z6A)
@[simp] noncomputable def z3D:FS:=(yw 2 (eOp zeK (hG! 0) r!))
@[simp] noncomputable def z02:FS:=(z1k u! A! (eOp z45 (hG! 0) r!))
@[simp] noncomputable def z9S:FS:=(xb P!)
noncomputable def z50:FS:=(a6! z3D z02 z9S)
noncomputable def zB:Mir:=cL! [dy!,pD!,gs!] z50
@[simp] noncomputable def z8u:FS:=(xb (zcS (eIs eE! u!) (zsl (qa! u!))))
noncomputable def zah:FS:=z8u
noncomputable def yY:Mir:=c0! [dP!] zah
@[simp] noncomputable def vM:FS:=(xb (zcS (k6! u!) (zcS (eOp dEq ch! r!) (aM! zgq (i7! cW! [a!] 0 (a8! yY))))))
noncomputable def uE:FS:=vM
noncomputable def yd:Mir:=cL! [dP!,lX!] uE
@[simp] noncomputable def z78:FS:=(xb iG!)
@[simp] noncomputable def xz:FS:=(a2! (js! (k6! u!) (hs! (zb0 d!) ch! (vj (zb (E! 2) (cc! (E! 3) (E! 4)))))) z78)
@[simp] noncomputable def z7P:FS:=(xb iG!)
@[simp] noncomputable def yL:FS:=(a2! (js! (jj! yY) (dn! dLt 1 A!)) z7P)
@[simp] noncomputable def ww:FS:=(hg! cW! 1 yL)
@[simp] noncomputable def vU:FS:=(xb (eOp dGt (a8! vY) A!))
noncomputable def uL:FS:=(a6! xz ww vU)
noncomputable def yG:Mir:=c0! [dP!,b8!] uL
@[simp] noncomputable def z1v:FS:=(yw 1 (bf! (E! 2) (da! zB (E! 3))))
@[simp] noncomputable def z1o:FS:=(yw 2 (co! (qg (dY! (E! 13) (E! fF!) (eOp zcT (E! 10) (E! 6)) (eOp zcT (E! 10) (E! 30)) (cc! (E! 3) (E! 60)))) (da! zB (E! 6))))
@[simp] noncomputable def z1j:FS:=(yw 3 (da! zB (E! 4)))
@[simp] noncomputable def z1t:FS:=(yw 4 (zaQ zi))
@[simp] noncomputable def jB:FS:=(yw 6 (bf! (da! zB P!) ah!))
@[simp] noncomputable def jQ:FS:=(wq (zdv (zd 4) (fS! 6 (aM! ze9 (eOp dGe (da! zB (E! 4)) bp!)))))
@[simp] noncomputable def jw:FS:=(hg! (eA! 1) 5 (zy jB jQ))
@[simp] noncomputable def z4z:FS:=(z1k (zd 4) (cM! zB) (bf! ah! (da! zB P!)))
@[simp] noncomputable def jG:FS:=(a2! (hs! dEq (e5! vY 4) A!) z4z)
@[simp] noncomputable def z0l:FS:=(yw 7 (bf! ah! (da! zB (E! 12))))
@[simp] noncomputable def z2U:FS:=(z1k (zd 4) (cM! zB) (di! 4 (cM! zB)))
@[simp] noncomputable def qW:FS:=(a2! (hs! dEq (da! zB (E! 3)) A!) z2U)
@[simp] noncomputable def z2V:FS:=(z1k (zd 4) A! ah!)
@[simp] noncomputable def qS:FS:=(a2! (hs! dEq (e5! vY 4) A!) z2V)
@[simp] noncomputable def z3z:FS:=(xb (dr! (zQ (zd 4)) (F! 7) 1 (fS! 1 u!)))
noncomputable def z7a:FS:=(zy z1v (dB! z1o z1j z1t jw (dB! jG z0l qW qS z3z)))
noncomputable def z1H:Mir:=z5K (c0! [dy!,f0!,pD!,"_law_thin",kY!,eJ!,b8!,oz!] z7a)
@[simp] noncomputable def z0z:FS:=(yw 2 (qg (zb (zmx r!) (dY! (dz! zle 1 (bL! " ")) (zvT r! (yx ah!)) (dz! zle 1 (bL! "s")) (bL! "") (dY! (eC aA!) (E! 3) (vj (b9! 1)) (qg (b9! 1)) (cc! (eC eQ!) (eC .dct)))))))
@[simp] noncomputable def z0F:FS:=(xb (di! 2 (da! zB (E! 11))))
noncomputable def z0W:FS:=(zy z0z z0F)
noncomputable def xq:Mir:=cL! [dy!,f1!,hp!] z0W
@[simp] noncomputable def z4R:FS:=(yw 1 (qg (dY! (eC aA!) (eC eQ!) iG! ea! (dY! A! (E! 7) (eOp zcT (E! 10) (E! 30)) (bL! "") (dY! (bL! "1:0") (vj zi) (dL! A! A!) (vj (a0! ah!)) (cc! (qg (cc! ah! A!)) (eC .dct)))))))
@[simp] noncomputable def z4A:FS:=(xb (co! (i5! 1 (qg (cc! (dL! (dL! ah! A!) (dL! A! ah!)) (dL! (eC eQ!) (E! 2))))) (da! zB (E! 16))))
noncomputable def z7R:FS:=(zy z4R z4A)
noncomputable def kB:Mir:=c0! [dy!,hp!] z7R
@[simp] noncomputable def z0S:FS:=(yw 2 (zaQ (b9! 1)))
@[simp] noncomputable def z16:FS:=(yw 3 (zaQ zi))
@[simp] noncomputable def jN:FS:=(zgj (da! jj (di! 2 ea!)) (yS 4 5))
@[simp] noncomputable def ju:FS:=(wq (zdv P! (zd 4)))
@[simp] noncomputable def jM:FS:=(wq (zdv bp! (zd 5)))
@[simp] noncomputable def z5f:FS:=(z2e (eR! (aM! xE (di! 2 ea!))) (a6! jN ju jM))
@[simp] noncomputable def z5g:FS:=(xb (dL! P! bp!))
noncomputable def z7H:FS:=(zy z0S (a6! z16 z5f z5g))
noncomputable def z1A:Mir:=cL! [f1!,bP!,pE!,pF!,oB!,jL!] z7H
@[simp] noncomputable def z7V:FS:=(yw 2 (zaQ (b9! 1)))
@[simp] noncomputable def z6T:FS:=(yw 3 (zaQ zi))
@[simp] noncomputable def z82:FS:=(zgj (da! z20 (di! 2 ea!)) (yS 4 5))
@[simp] noncomputable def z6r:FS:=(wq (zdv P! (zd 4)))
@[simp] noncomputable def z6K:FS:=(wq (zdv bp! (zd 5)))
@[simp] noncomputable def z6U:FS:=(z2e (eR! (aM! xE (di! 2 ea!))) (a6! z82 z6r z6K))
@[simp] noncomputable def z6n:FS:=(xb (dL! P! bp!))
noncomputable def z8n:FS:=(zy z7V (a6! z6T z6U z6n))
noncomputable def z0j:Mir:=cL! [f1!,bP!,pE!,pF!,oB!,jL!] z8n
@[simp] noncomputable def z9X(Mr:Mir):FS:=(xb iG!)
@[simp] noncomputable def z3I(Mr:Mir):FS:=(a2! (fOr (eS! (eIs en! r!) (eIs en! u!)) (eS! (k6! r!) (k6! u!))) (z9X Mr))
@[simp] noncomputable def z0a(Mr:Mir):FS:=(xb (zcS (eOp dEq ch! h9!) (aM! zgq (zt (z5b (hY! 0 1)) jp! (yS 0 1) zU (cM! Mr)))))
@[simp] noncomputable def qN(Mr:Mir):FS:=(a2! (tOf (ztL en! c2! r!)) (zy (z3I Mr) (z0a Mr)))
@[simp] noncomputable def z0p(Mr:Mir):FS:=(xb (zcS (dz! dEq 0 r!) (eOp dEq (qa! u!) (qa! r!))))
@[simp] noncomputable def z0m(Mr:Mir):FS:=(a2! (fOr (dn! dIs 1 (eC aA!)) (fOr (tOf (qa! r!)) (tOf (eIs go! r!)))) (z0p Mr))
@[simp] noncomputable def z3b(Mr:Mir):FS:=(xb (zcS (a8! yY) (dz! dEq 0 r!)))
noncomputable def jO(Mr:Mir):FS:=(a6! (qN Mr) (z0m Mr) (z3b Mr))
def zJ:Nat->Mir
 | 0=>λ_ _=>.no | k+1=>cL! [gs!,kZ!] (jO (zJ k))
noncomputable def uz:Mir:=zJ 5
@[simp] noncomputable def z0k:FS:=(yw 2 (da! zB h9!))
@[simp] noncomputable def z0u:FS:=(yw 3 (qg (dY! (bf! (ax! 1 2) ah!) (eOp z8T (ax! 1 2) ah!) (eOp z8T A! (ax! 1 2)) A! (dY! (eC eQ!) (eC aA!) (bL! "1") (vj (a0! ah!)) (cc! (eOp zcT (E! 10) (E! 30)) (di! 1 (kK! 2 ah!)))))))
@[simp] noncomputable def z05:FS:=(yw 3 (di! 3 (da! zB (E! 10))))
@[simp] noncomputable def z2Q:FS:=(yw 4 (qg (dY! (bf! (bf! (gh! r! P!) (vj (b9! 3))) (fg! r! (fQ! 2))) (bf! (bf! (gh! r! P!) (vj (b9! 3))) (fg! r! (fQ! 2))) (bf! (gh! r! P!) (fg! r! (fQ! 2))) (jj! z2y) zi)))
@[simp] noncomputable def z0o:FS:=(yw 4 (i5! 4 (qg (dY! (bf! (bf! (gh! r! P!) (vj (a0! A!))) (fg! r! P!)) (zrb r!) (i5! 1 r!) (eOp zh8 (vj (a0! A!)) h9!) (cc! (a8! kB) (vj (b9! 1)))))))
@[simp] noncomputable def z2Z:FS:=(xb (di! 4 (da! zB (E! 10))))
noncomputable def z4X:FS:=(zy z0k (dB! z0u z05 z2Q z0o z2Z))
noncomputable def uu:Mir:=cL! [dy!,"_law_row",e3!,q6!,hp!] z4X
end Pg
set_option maxRecDepth 1000000
set_option maxHeartbeats 4000000
namespace Pm
noncomputable abbrev Tb:=fr!
noncomputable def dot(r v:h!):Int:=(oC! (λa b=>a*b) r v).sum
noncomputable def mv(T:Tb)(v:h!):h!:=oD! (λr=>ei! r)
noncomputable def yi(T:Tb):Tb:=aT! bt! (λj=>oD! (λr=>cT! j))
noncomputable def jH(A B:Tb):Tb:=yi ((yi B).map (mv A))
noncomputable def z2F(T:Tb)(i j:Nat):Tb:=(T.take i++T.drop (i+1)).map λr=>q7! j++oi! (j+1)
noncomputable def sg(i j:Nat):Int:=an! ((i+j) % 2=0) 1 (-1)
def det:Nat->Tb->Int
 | 0,_=>0 | k+1,T=>ak! bt! 1 (bg! (jZ! 0) 0) (aT! bt! (λj=>sg 0 j*bg! (jZ! 0) j*det k (fl! 0 j))).sum
noncomputable def back(T:Tb):Tb:=aT! bt! (λi=>aT! bt! (λj=>eV! T*sg i j*eV! (fl! j i)))
noncomputable def one(n:Nat):Tb:=aT! n (λi=>aT! n (λj=>ak! i j 1 0))
structure Tab(n:Nat)(T:Tb):g! where
 len:bt!=n
 row:∀r∈T,aK!=n
theorem z9O{α:bD!}{l:et!}(h:hT!=2):∃a b,l=[a,b]:=by match l,h with | [a,b],_=>exact a3! a b rfl
theorem z8f{α:bD!}{l:et!}(h:hT!=3):∃a b c,l=[a,b,c]:=by match l,h with | [a,b,c],_=>exact ck! a b c rfl
theorem z6X{α:bD!}{l:et!}(h:hT!=4):∃a b c d,l=[a,b,c,d]:=by match l,h with | [a,b,c,d],_=>exact⟨a,b,c,d,rfl⟩
theorem zea(h:Tab 2 T):∃a b c d,T=[[a,b],[c,d]]:=by
 obtain⟨r,q,rfl⟩:=z9O h.len;obtain⟨a,b,rfl⟩:=z9O (jM! r (by simp));obtain⟨c,d,rfl⟩:=z9O (jM! q (by simp));exact⟨a,b,c,d,rfl⟩
theorem zeH(h:Tab 3 T):∃a b c d e f g i j,T=[[a,b,c],[d,e,f],[g,i,j]]:=by
 obtain⟨r,q,p,rfl⟩:=z8f h.len;obtain⟨a,b,c,rfl⟩:=z8f (jM! r (by simp));obtain⟨d,e,f,rfl⟩:=z8f (jM! q (by simp));obtain⟨g,i,j,rfl⟩:=z8f (jM! p (by simp));exact⟨a,b,c,d,e,f,g,i,j,rfl⟩
theorem zep(h:Tab 4 T):∃a b c d e f g i j k l m n o p q,T=[[a,b,c,d],[e,f,g,i],[j,k,l,m],[n,o,p,q]]:=by
 obtain⟨r1,r2,r3,r4,rfl⟩:=z6X h.len;obtain⟨a,b,c,d,rfl⟩:=z6X (jM! r1 (by simp));obtain⟨e,f,g,i,rfl⟩:=z6X (jM! r2 (by simp));obtain⟨j,k,l,m,rfl⟩:=z6X (jM! r3 (by simp));obtain⟨n,o,p,q,rfl⟩:=z6X (jM! r4 (by simp));exact⟨a,b,c,d,e,f,g,i,j,k,l,m,n,o,p,q,rfl⟩
theorem zoG(a b c d A B C D:Int):jH [[a,b],[c,d]] [[A,B],[C,D]]=[[a*A+(b*C+0),a*B+(b*D+0)],[c*A+(d*C+0),c*B+(d*D+0)]]:=rfl
theorem znA(a b c d e f g i j A B C D E F G I J:Int):jH [[a,b,c],[d,e,f],[g,i,j]] [[A,B,C],[D,E,F],[G,I,J]]= [[a*A+(b*D+(c*G+0)),a*B+(b*E+(c*I+0)),a*C+(b*F+(c*J+0))],[d*A+(e*D+(f*G+0)),d*B+(e*E+(f*I+0)),d*C+(e*F+(f*J+0))],[g*A+(i*D+(j*G+0)),g*B+(i*E+(j*I+0)),g*C+(i*F+(j*J+0))]]:=rfl
theorem zty(a b c d e f g i j k l m n o p q A B C D E F G I J K L M N Oo P Q:Int):jH [[a,b,c,d],[e,f,g,i],[j,k,l,m],[n,o,p,q]] [[A,B,C,D],[E,F,G,I],[J,K,L,M],[N,Oo,P,Q]]= [[a*A+(b*E+(c*J+(d*N+0))),a*B+(b*F+(c*K+(d*Oo+0))),a*C+(b*G+(c*L+(d*P+0))),a*D+(b*I+(c*M+(d*Q+0)))], [e*A+(f*E+(g*J+(i*N+0))),e*B+(f*F+(g*K+(i*Oo+0))),e*C+(f*G+(g*L+(i*P+0))),e*D+(f*I+(g*M+(i*Q+0)))], [j*A+(k*E+(l*J+(m*N+0))),j*B+(k*F+(l*K+(m*Oo+0))),j*C+(k*G+(l*L+(m*P+0))),j*D+(k*I+(l*M+(m*Q+0)))], [n*A+(o*E+(p*J+(q*N+0))),n*B+(o*F+(p*K+(q*Oo+0))),n*C+(o*G+(p*L+(q*P+0))),n*D+(o*I+(p*M+(q*Q+0)))]]:=rfl
noncomputable def d2(a b c d:Int):Int:=a*d-b*c
noncomputable def d3(a b c d e f g h i:Int):Int:=a*d2 e f h i-b*d2 d f g i+c*d2 d e g h
noncomputable def d4(a b c d e f g h i j k l m n o p:Int):Int:=a*d3 f g h j k l n o p-b*d3 e g h i k l m o p+c*d3 e f h i j l m n p-d*d3 e f g i j k m n o
theorem zb2(k:Nat)(a b c d:Int):det (k+2) [[a,b],[c,d]]=d2 a b c d:=by
 show (1*a*d+(-1*b*c+0))=_;unfold d2;grind
theorem z8P(k:Nat)(a b c d e f g h i:Int):det (k+3) [[a,b,c],[d,e,f],[g,h,i]]=aS! d e f g h i:=by
 refine aJ! (show _=1*a*det (k+2) [[e,f],[h,i]]+(-1*b*det (k+2) [[d,f],[g,i]]+(1*c*det (k+2) [[d,e],[g,h]]+0)) from by with_unfolding_all rfl) ?_;rw[zb2,zb2,zb2,d3];lia
theorem kT(k:Nat)(a b c d e f g h i j l m n o p q:Int):det (k+4) [[a,b,c,d],[e,f,g,h],[i,j,l,m],[n,o,p,q]]=d4 a b c d e f g h i j l m n o p q:=by
 refine aJ! (show _=1*a*det (k+3) [[f,g,h],[j,l,m],[o,p,q]]+(-1*b*det (k+3) [[e,g,h],[i,l,m],[n,p,q]]+(1*c*det (k+3) [[e,f,h],[i,j,m],[n,o,q]]+(-1*d*det (k+3) [[e,f,g],[i,j,l],[n,o,p]]+0))) from by with_unfolding_all rfl) ?_;rw[z8P,z8P,z8P,z8P,d4];grind
theorem zsC(a b c d:Int):gV! [[a,b],[c,d]]=[[d2 a b c d*d,-(d2 a b c d*b)],[-(d2 a b c d*c),d2 a b c d*a]]:=by
 have m1:∀x:Int,eV! [[x]]=x:=λx=>rfl;simp[back,List.range,List.range.loop,z2F,sg,zb2,m1,Int.neg_mul]
theorem ztu(a b c d e f g h i:Int):gV! [[a,b,c],[d,e,f],[g,h,i]]= [[aS! d e f g h i*d2 e f h i,-(aS! d e f g h i*d2 b c h i),aS! d e f g h i*d2 b c e f], [-(aS! d e f g h i*d2 d f g i),aS! d e f g h i*d2 a c g i,-(aS! d e f g h i*d2 a c d f)], [aS! d e f g h i*d2 d e g h,-(aS! d e f g h i*d2 a b g h),aS! d e f g h i*d2 a b d e]]:=by simp[back,List.range,List.range.loop,z2F,sg,zb2,z8P,Int.neg_mul]
theorem zsV(a b c d e f g h i j l m n o p q:Int):gV! [[a,b,c,d],[e,f,g,h],[i,j,l,m],[n,o,p,q]]= let t:=d4 a b c d e f g h i j l m n o p q;[[t*d3 f g h j l m o p q,-(t*d3 b c d j l m o p q),t*d3 b c d f g h o p q,-(t*d3 b c d f g h j l m)], [-(t*d3 e g h i l m n p q),t*cI! c d i l m n p q,-(t*cI! c d e g h n p q),t*cI! c d e g h i l m], [t*d3 e f h i j m n o q,-(t*cJ! d i j m n o q),t*cJ! d e f h n o q,-(t*cJ! d e f h i j m)], [-(t*d3 e f g i j l n o p),t*aS! i j l n o p,-(t*aS! e f g n o p),t*aS! e f g i j l]]:=by simp[back,List.range,List.range.loop,z2F,sg,z8P,kT,Int.neg_mul]
theorem zwE(a b e f g h x y:Int):(a*e+(b*g+0))*x+((a*f+(b*h+0))*y+0)=a*(e*x+(f*y+0))+(b*(g*x+(h*y+0))+0):=by grind
theorem zw3(a b c e f g h i j k l m x y z:Int):(a*e+(b*h+(c*k+0)))*x+((a*f+(b*i+(c*l+0)))*y+((a*g+(b*j+(c*m+0)))*z+0))=a*(e*x+(f*y+(g*z+0)))+(b*(h*x+(i*y+(j*z+0)))+(c*(k*x+(l*y+(m*z+0)))+0)):=by grind
theorem zvZ(a b c d e f g h i j k l m n o p q r s t x y z u:Int):(a*e+(b*i+(c*m+(d*q+0))))*x+((a*f+(b*j+(c*n+(d*r+0))))*y+((a*g+(b*k+(c*o+(d*s+0))))*z+((a*h+(b*l+(c*p+(d*t+0))))*u+0)))= a*(e*x+(f*y+(g*z+(h*u+0))))+(b*(i*x+(j*y+(k*z+(l*u+0))))+(c*(m*x+(n*y+(o*z+(p*u+0))))+(d*(q*x+(r*y+(s*z+(t*u+0))))+0))):=by grind
theorem zx{α:bD!}{a b:α}{s t:et!}(h:a=b)(k:s=t):a::s=b::t:=h ▸ k ▸ rfl
theorem zgC(hn:n=2\/n=3\/n=4)(ha:id!)(hb:e8! B)(hv:z!=n):mv (jH A B) v=mv A (mv B v):=by
 rcases hn with rfl | rfl | rfl
 ·obtain⟨a,b,c,d,rfl⟩:=zea ha;obtain⟨e,f,g,h,rfl⟩:=zea hb;obtain⟨x,y,rfl⟩:=z9O hv;exact have v:=λa b=>zwE a b e f g h x y;dV! (v a b) (v c d)
 ·obtain⟨a,b,c,d,e,f,g,h,i,rfl⟩:=zeH ha;obtain⟨j,k,l,m,n,o,p,q,r,rfl⟩:=zeH hb;obtain⟨x,y,z,rfl⟩:=z8f hv;exact have v:=λa b c=>zw3 a b c j k l m n o p q r x y z;zx (v a b c) (dV! (v d e f) (v g h i))
 ·obtain⟨a,b,c,d,e,f,g,h,i,j,k,l,m,n,o,p,rfl⟩:=zep ha;obtain⟨a',b',c',d',e',f',g',h',i',j',k',l',m',n',o',p',rfl⟩:=zep hb;obtain⟨x,y,z,u,rfl⟩:=z6X hv;exact have v:=λa b c d=>zvZ a b c d a' b' c' d' e' f' g' h' i' j' k' l' m' n' o' p' x y z u;h0! (v a b c d) (v e f g h) (dV! (v i j k l) (v m n o p))
theorem zct(hn:n=2\/n=3\/n=4)(h:id!):yi (yi A)=A:=by
 rcases hn with rfl | rfl | rfl;·obtain⟨a,b,c,d,rfl⟩:=zea h;rfl
 ·obtain⟨a,b,c,d,e,f,g,h,i,rfl⟩:=zeH h;rfl
 ·obtain⟨a,b,c,d,e,f,g,h,i,j,k,l,m,n,o,p,rfl⟩:=zep h;rfl
theorem assoc(hn:n=2\/n=3\/n=4)(ha:id!)(hb:e8! B)(hc:e8! C):jH (jH A B) C=jH A (jH B C):=by
 have tc:∀x∈yi C,x.length=n:=ac! (by
  obtain⟨j,_,rfl⟩:=gB!;rw[_z,hc.len])
 have tx:e8! ((yi C).map (mv B)):=⟨by rw[_z,yi,_z,_de,hc.len],dh! (by
  obtain⟨x,_,rfl⟩:=jX!;rw[mv,_z,hb.len])⟩;show yi ((yi C).map (mv (jH A B)))=yi ((yi (yi ((yi C).map (mv B)))).map (mv A));rw[zct hn tx,_ag];exact _au yi (_aq (ac! (zgC hn ha hb (tc x hx))))
end Pm
set_option maxRecDepth 1000000
set_option maxHeartbeats 40000000
namespace Pm
theorem dm2(a b c d A B C D:Int):d2 (a*A+(b*C+0)) (a*B+(b*D+0)) (c*A+(d*C+0)) (c*B+(d*D+0))=d2 a b c d*d2 A B C D:=by simp only[d2];grind
theorem dm3(a b c d e f g i j A B C D E F G I J:Int):d3 (a*A+(b*D+(c*G+0))) (a*B+(b*E+(c*I+0))) (a*C+(b*F+(c*J+0))) (d*A+(e*D+(f*G+0))) (d*B+(e*E+(f*I+0))) (d*C+(e*F+(f*J+0))) (g*A+(i*D+(j*G+0))) (g*B+(i*E+(j*I+0))) (g*C+(i*F+(j*J+0)))=aS! d e f g i j*d3 A B C D E F G I J:=by simp only[d3,d2];grind
theorem dm4(a b c d e f g i j k l m n o p q A B C D E F G I J K L M N Oo P Q:Int):d4 (a*A+(b*E+(c*J+(d*N+0)))) (a*B+(b*F+(c*K+(d*Oo+0)))) (a*C+(b*G+(c*L+(d*P+0)))) (a*D+(b*I+(c*M+(d*Q+0)))) (e*A+(f*E+(g*J+(i*N+0)))) (e*B+(f*F+(g*K+(i*Oo+0)))) (e*C+(f*G+(g*L+(i*P+0)))) (e*D+(f*I+(g*M+(i*Q+0)))) (j*A+(k*E+(l*J+(m*N+0)))) (j*B+(k*F+(l*K+(m*Oo+0)))) (j*C+(k*G+(l*L+(m*P+0)))) (j*D+(k*I+(l*M+(m*Q+0)))) (n*A+(o*E+(p*J+(q*N+0)))) (n*B+(o*F+(p*K+(q*Oo+0)))) (n*C+(o*G+(p*L+(q*P+0)))) (n*D+(o*I+(p*M+(q*Q+0))))=d4 a b c d e f g i j k l m n o p q*d4 A B C D E F G I J K L M N Oo P Q:=by simp only[d4,d3,d2];grind
theorem zeI(hn:n=2\/n=3\/n=4)(ha:id!)(hb:e8! B):eV! (jH A B)=eV! A*eV! B:=by
 rcases hn with rfl | rfl | rfl
 ·obtain⟨a,b,c,d,rfl⟩:=zea ha;obtain⟨e,f,g,h,rfl⟩:=zea hb;rw[zoG,zb2,zb2,zb2,dm2]
 ·obtain⟨a1,a2,a3,a4,a5,a6,a7,a8,a9,rfl⟩:=zeH ha;obtain⟨b1,b2,b3,b4,b5,b6,b7,b8,b9,rfl⟩:=zeH hb;rw[znA,z8P 1,z8P 1,z8P 1,dm3]
 ·obtain⟨a1,a2,a3,a4,a5,a6,a7,a8,a9,a10,a11,a12,ii,ij,ik,li,rfl⟩:=zep ha;obtain⟨b1,b2,b3,b4,b5,b6,b7,b8,b9,oh,oj,om,oo,oq,ou,ox,rfl⟩:=zep hb;rw[zty,kT 0,kT 0,kT 0,dm4]
theorem zsh:one 2=[[1,0],[0,1]]:=rfl
theorem zs4:one 3=[[1,0,0],[0,1,0],[0,0,1]]:=rfl
theorem zre:one 4=[[1,0,0,0],[0,1,0,0],[0,0,1,0],[0,0,0,1]]:=rfl
theorem zgR(hn:n=2\/n=3\/n=4)(hv:z!=n):mv bB! v=v:=by
 rcases hn with rfl | rfl | rfl
 ·obtain⟨x,y,rfl⟩:=z9O hv;rw[zsh];simp[mv,dot]
 ·obtain⟨x,y,z,rfl⟩:=z8f hv;rw[zs4];simp[mv,dot]
 ·obtain⟨x,y,z,u,rfl⟩:=z6X hv;rw[zre];simp[mv,dot]
theorem zvJ(a b:Int):a*1+(b*0+0)=a/\a*0+(b*1+0)=b:=by simp
theorem zvM(a b c:Int):a*1+(b*0+(c*0+0))=a/\a*0+(b*1+(c*0+0))=b/\a*0+(b*0+(c*1+0))=c:=by simp
theorem zvs(a b c d:Int):a*1+(b*0+(c*0+(d*0+0)))=a/\a*0+(b*1+(c*0+(d*0+0)))=b/\a*0+(b*0+(c*1+(d*0+0)))=c/\a*0+(b*0+(c*0+(d*1+0)))=d:=by simp
theorem z5Y(hn:n=2\/n=3\/n=4)(ha:id!):jH bB! A=A/\jH A bB!=A:=by
 constructor
 ·show yi ((yi A).map (mv bB!))=A;rw[show (yi A).map (mv bB!)=yi A from aJ! (_aq (ac! (by
   obtain⟨j,_,rfl⟩:=gB!;exact zgR hn (by rw[_z,ha.len])))) (List.map_id _)];exact zct hn ha
 ·rcases hn with rfl | rfl | rfl
  ·obtain⟨a,b,c,d,rfl⟩:=zea ha;exact have u:=λa b=>(have h:=zvJ a b;dV! h.1 h.2);dV! (u a b) (u c d)
  ·obtain⟨a,b,c,d,e,f,g,h,i,rfl⟩:=zeH ha;exact have u:=λa b c=>(have h:=zvM a b c;zx h.1 (dV! h.2.1 h.2.2));zx (u a b c) (dV! (u d e f) (u g h i))
  ·obtain⟨a,b,c,d,e,f,g,h,i,j,k,l,m,n,o,p,rfl⟩:=zep ha;exact have u:=λa b c d=>(have h:=zvs a b c d;h0! h.1 h.2.1 (dV! h.2.2.1 h.2.2.2));h0! (u a b c d) (u e f g h) (dV! (u i j k l) (u m n o p))
theorem zoA(hn:n=2\/n=3\/n=4):eV! bB!=1:=by
 rcases hn with rfl | rfl | rfl;·rfl
 ·rfl
 ·rfl
theorem bm2(a b c d t:Int)(ht:t=d2 a b c d)(h:t*t=1):jH [[t*d,-(t*b)],[-(t*c),t*a]] [[a,b],[c,d]]=one 2/\jH [[a,b],[c,d]] [[t*d,-(t*b)],[-(t*c),t*a]]=one 2:=by
 simp only[d2]at ht;rw[zsh,zoG,zoG];and_intros<;>grind
end Pm
set_option maxRecDepth 1000000
set_option maxHeartbeats 40000000
namespace Pm
theorem zun(a b c d e f g h i:Int):d2 e f h i*a-d2 b c h i*d+d2 b c e f*g=aS! d e f g h i:=by simp only[d3,d2]<;>grind
theorem zuc(a b c d e f g h i:Int):d2 e f h i*b-d2 b c h i*e+d2 b c e f*h=0:=by simp only[d2]<;>grind
theorem zur(a b c d e f g h i:Int):d2 e f h i*c-d2 b c h i*f+d2 b c e f*i=0:=by simp only[d2]<;>grind
theorem zsQ(a b c d e f g h i:Int):-d2 d f g i*a+d2 a c g i*d-d2 a c d f*g=0:=by simp only[d2]<;>grind
theorem zsD(a b c d e f g h i:Int):-d2 d f g i*b+d2 a c g i*e-d2 a c d f*h=aS! d e f g h i:=by simp only[d3,d2]<;>grind
theorem zu9(a b c d e f g h i:Int):-d2 d f g i*c+d2 a c g i*f-d2 a c d f*i=0:=by simp only[d2]<;>grind
theorem ztX(a b c d e f g h i:Int):d2 d e g h*a-d2 a b g h*d+d2 a b d e*g=0:=by simp only[d2]<;>grind
theorem zv1(a b c d e f g h i:Int):d2 d e g h*b-d2 a b g h*e+d2 a b d e*h=0:=by simp only[d2]<;>grind
theorem ztH(a b c d e f g h i:Int):d2 d e g h*c-d2 a b g h*f+d2 a b d e*i=aS! d e f g h i:=by simp only[d3,d2]<;>grind
theorem zsK(a b c d e f g h i:Int):a*d2 e f h i-b*d2 d f g i+c*d2 d e g h=aS! d e f g h i:=by rfl<;>grind
theorem zsy(a b c d e f g h i:Int):-a*d2 b c h i+b*d2 a c g i-c*d2 a b g h=0:=by simp only[d2]<;>grind
theorem zuX(a b c d e f g h i:Int):a*d2 b c e f-b*d2 a c d f+c*d2 a b d e=0:=by simp only[d2]<;>grind
theorem zuK(a b c d e f g h i:Int):d*d2 e f h i-e*d2 d f g i+f*d2 d e g h=0:=by simp only[d2]<;>grind
theorem zsP(a b c d e f g h i:Int):-d*d2 b c h i+e*d2 a c g i-f*d2 a b g h=aS! d e f g h i:=by simp only[d3,d2]<;>grind
theorem zu4(a b c d e f g h i:Int):d*d2 b c e f-e*d2 a c d f+f*d2 a b d e=0:=by simp only[d2]<;>grind
theorem zuE(a b c d e f g h i:Int):g*d2 e f h i-h*d2 d f g i+i*d2 d e g h=0:=by simp only[d2]<;>grind
theorem zu7(a b c d e f g h i:Int):-g*d2 b c h i+h*d2 a c g i-i*d2 a b g h=0:=by simp only[d2]<;>grind
theorem zts(a b c d e f g h i:Int):g*d2 b c e f-h*d2 a c d f+i*d2 a b d e=aS! d e f g h i:=by simp only[d3,d2]<;>grind
theorem bm3(a b c d e f g h i t:Int)(ht:t=aS! d e f g h i)(h1:t*t=1):jH [[t*d2 e f h i,-(t*d2 b c h i),t*d2 b c e f],[-(t*d2 d f g i),t*d2 a c g i,-(t*d2 a c d f)],[t*d2 d e g h,-(t*d2 a b g h),t*d2 a b d e]] [[a,b,c],[d,e,f],[g,h,i]]=one 3/\jH [[a,b,c],[d,e,f],[g,h,i]] [[t*d2 e f h i,-(t*d2 b c h i),t*d2 b c e f],[-(t*d2 d f g i),t*d2 a c g i,-(t*d2 a c d f)],[t*d2 d e g h,-(t*d2 a b g h),t*d2 a b d e]]=one 3:=by
 rw[zs4,znA,znA];simp only[_cA,and_true];exact as! ⟨a3! (by have c:=zun a b c d e f g h i;grind) (by have c:=zuc a b c d e f g h i;grind) (by have c:=zur a b c d e f g h i;grind),a3! (by have c:=zsQ a b c d e f g h i;grind) (by have c:=zsD a b c d e f g h i;grind) (by have c:=zu9 a b c d e f g h i;grind),a3! (by have c:=ztX a b c d e f g h i;grind) (by have c:=zv1 a b c d e f g h i;grind) (by have c:=ztH a b c d e f g h i;grind)⟩ ⟨a3! (by have c:=zsK a b c d e f g h i;grind) (by have c:=zsy a b c d e f g h i;grind) (by have c:=zuX a b c d e f g h i;grind),a3! (by have c:=zuK a b c d e f g h i;grind) (by have c:=zsP a b c d e f g h i;grind) (by have c:=zu4 a b c d e f g h i;grind),a3! (by have c:=zuE a b c d e f g h i;grind) (by have c:=zu7 a b c d e f g h i;grind) (by have c:=zts a b c d e f g h i;grind)⟩
theorem zt3(a b c d e f g h i j l m n o p q:Int):d3 f g h j l m o p q*a-d3 b c d j l m o p q*e+d3 b c d f g h o p q*i-d3 b c d f g h j l m*n=d4 a b c d e f g h i j l m n o p q:=by simp only[d4,d3,d2]<;>grind
theorem zt8(a b c d e f g h i j l m n o p q:Int):d3 f g h j l m o p q*b-d3 b c d j l m o p q*f+d3 b c d f g h o p q*j-d3 b c d f g h j l m*o=0:=by simp only[d3,d2]<;>grind
theorem zuA(a b c d e f g h i j l m n o p q:Int):d3 f g h j l m o p q*c-d3 b c d j l m o p q*g+d3 b c d f g h o p q*l-d3 b c d f g h j l m*p=0:=by simp only[d3,d2]<;>grind
theorem ztK(a b c d e f g h i j l m n o p q:Int):d3 f g h j l m o p q*d-d3 b c d j l m o p q*h+d3 b c d f g h o p q*m-d3 b c d f g h j l m*q=0:=by simp only[d3,d2]<;>grind
theorem zuT(a b c d e f g h i j l m n o p q:Int):-d3 e g h i l m n p q*a+cI! c d i l m n p q*e-cI! c d e g h n p q*i+cI! c d e g h i l m*n=0:=by simp only[d3,d2]<;>grind
theorem ztN(a b c d e f g h i j l m n o p q:Int):-d3 e g h i l m n p q*b+cI! c d i l m n p q*f-cI! c d e g h n p q*j+cI! c d e g h i l m*o=d4 a b c d e f g h i j l m n o p q:=by simp only[d4,d3,d2]<;>grind
theorem zuO(a b c d e f g h i j l m n o p q:Int):-d3 e g h i l m n p q*c+cI! c d i l m n p q*g-cI! c d e g h n p q*l+cI! c d e g h i l m*p=0:=by simp only[d3,d2]<;>grind
theorem zva(a b c d e f g h i j l m n o p q:Int):-d3 e g h i l m n p q*d+cI! c d i l m n p q*h-cI! c d e g h n p q*m+cI! c d e g h i l m*q=0:=by simp only[d3,d2]<;>grind
theorem zt9(a b c d e f g h i j l m n o p q:Int):d3 e f h i j m n o q*a-cJ! d i j m n o q*e+cJ! d e f h n o q*i-cJ! d e f h i j m*n=0:=by simp only[d3,d2]<;>grind
theorem zux(a b c d e f g h i j l m n o p q:Int):d3 e f h i j m n o q*b-cJ! d i j m n o q*f+cJ! d e f h n o q*j-cJ! d e f h i j m*o=0:=by simp only[d3,d2]<;>grind
theorem zuJ(a b c d e f g h i j l m n o p q:Int):d3 e f h i j m n o q*c-cJ! d i j m n o q*g+cJ! d e f h n o q*l-cJ! d e f h i j m*p=d4 a b c d e f g h i j l m n o p q:=by simp only[d4,d3,d2]<;>grind
theorem zsq(a b c d e f g h i j l m n o p q:Int):d3 e f h i j m n o q*d-cJ! d i j m n o q*h+cJ! d e f h n o q*m-cJ! d e f h i j m*q=0:=by simp only[d3,d2]<;>grind
theorem zsG(a b c d e f g h i j l m n o p q:Int):-d3 e f g i j l n o p*a+aS! i j l n o p*e-aS! e f g n o p*i+aS! e f g i j l*n=0:=by simp only[d3,d2]<;>grind
theorem zsU(a b c d e f g h i j l m n o p q:Int):-d3 e f g i j l n o p*b+aS! i j l n o p*f-aS! e f g n o p*j+aS! e f g i j l*o=0:=by simp only[d3,d2]<;>grind
theorem zuP(a b c d e f g h i j l m n o p q:Int):-d3 e f g i j l n o p*c+aS! i j l n o p*g-aS! e f g n o p*l+aS! e f g i j l*p=0:=by simp only[d3,d2]<;>grind
theorem zv6(a b c d e f g h i j l m n o p q:Int):-d3 e f g i j l n o p*d+aS! i j l n o p*h-aS! e f g n o p*m+aS! e f g i j l*q=d4 a b c d e f g h i j l m n o p q:=by simp only[d4,d3,d2]<;>grind
theorem ze3(a b c d e f g h i j l m n o p q:Int):a*d3 f g h j l m o p q-b*d3 e g h i l m n p q+c*d3 e f h i j m n o q-d*d3 e f g i j l n o p=d4 a b c d e f g h i j l m n o p q:=by rfl<;>grind
theorem zrG(a b c d e f g h i j l m n o p q:Int):-a*d3 b c d j l m o p q+b*cI! c d i l m n p q-c*cJ! d i j m n o q+d*aS! i j l n o p=0:=by simp only[d3,d2]<;>grind
theorem zq0(a b c d e f g h i j l m n o p q:Int):a*d3 b c d f g h o p q-b*cI! c d e g h n p q+c*cJ! d e f h n o q-d*aS! e f g n o p=0:=by simp only[d3,d2]<;>grind
theorem zpx(a b c d e f g h i j l m n o p q:Int):-a*d3 b c d f g h j l m+b*cI! c d e g h i l m-c*cJ! d e f h i j m+d*aS! e f g i j l=0:=by simp only[d3,d2]<;>grind
theorem zqu(a b c d e f g h i j l m n o p q:Int):e*d3 f g h j l m o p q-f*d3 e g h i l m n p q+g*d3 e f h i j m n o q-h*d3 e f g i j l n o p=0:=by simp only[d3,d2]<;>grind
theorem ze1(a b c d e f g h i j l m n o p q:Int):-e*d3 b c d j l m o p q+f*cI! c d i l m n p q-g*cJ! d i j m n o q+h*aS! i j l n o p=d4 a b c d e f g h i j l m n o p q:=by simp only[d4,d3,d2]<;>grind
theorem zrr(a b c d e f g h i j l m n o p q:Int):e*d3 b c d f g h o p q-f*cI! c d e g h n p q+g*cJ! d e f h n o q-h*aS! e f g n o p=0:=by simp only[d3,d2]<;>grind
theorem zqz(a b c d e f g h i j l m n o p q:Int):-e*d3 b c d f g h j l m+f*cI! c d e g h i l m-g*cJ! d e f h i j m+h*aS! e f g i j l=0:=by simp only[d3,d2]<;>grind
theorem zr3(a b c d e f g h i j l m n o p q:Int):i*d3 f g h j l m o p q-j*d3 e g h i l m n p q+l*d3 e f h i j m n o q-m*d3 e f g i j l n o p=0:=by simp only[d3,d2]<;>grind
theorem zpF(a b c d e f g h i j l m n o p q:Int):-i*d3 b c d j l m o p q+j*cI! c d i l m n p q-l*cJ! d i j m n o q+m*aS! i j l n o p=0:=by simp only[d3,d2]<;>grind
theorem zd2(a b c d e f g h i j l m n o p q:Int):i*d3 b c d f g h o p q-j*cI! c d e g h n p q+l*cJ! d e f h n o q-m*aS! e f g n o p=d4 a b c d e f g h i j l m n o p q:=by simp only[d4,d3,d2]<;>grind
theorem zrK(a b c d e f g h i j l m n o p q:Int):-i*d3 b c d f g h j l m+j*cI! c d e g h i l m-l*cJ! d e f h i j m+m*aS! e f g i j l=0:=by simp only[d3,d2]<;>grind
theorem zrQ(a b c d e f g h i j l m n o p q:Int):n*d3 f g h j l m o p q-o*d3 e g h i l m n p q+p*d3 e f h i j m n o q-q*d3 e f g i j l n o p=0:=by simp only[d3,d2]<;>grind
theorem zpZ(a b c d e f g h i j l m n o p q:Int):-n*d3 b c d j l m o p q+o*cI! c d i l m n p q-p*cJ! d i j m n o q+q*aS! i j l n o p=0:=by simp only[d3,d2]<;>grind
theorem zpI(a b c d e f g h i j l m n o p q:Int):n*d3 b c d f g h o p q-o*cI! c d e g h n p q+p*cJ! d e f h n o q-q*aS! e f g n o p=0:=by simp only[d3,d2]<;>grind
theorem zdu(a b c d e f g h i j l m n o p q:Int):-n*d3 b c d f g h j l m+o*cI! c d e g h i l m-p*cJ! d e f h i j m+q*aS! e f g i j l=d4 a b c d e f g h i j l m n o p q:=by simp only[d4,d3,d2]<;>grind
theorem zmu{t P Q R S a e i n w v:Int}(h:P*a-Q*e+R*i-S*n=w)(k:t*w=v):t*P*a+(-(t*Q)*e+(t*R*i+(-(t*S)*n+0)))=v:=by grind
theorem zlJ{t P Q R S a e i n w v:Int}(h:-P*a+Q*e-R*i+S*n=w)(k:t*w=v):-(t*P)*a+(t*Q*e+(-(t*R)*i+(t*S*n+0)))=v:=by grind
theorem zmw{t P Q R S a e i n w v:Int}(h:a*P-e*Q+i*R-n*S=w)(k:t*w=v):a*(t*P)+(e*-(t*Q)+(i*(t*R)+(n*-(t*S)+0)))=v:=by grind
theorem zm2{t P Q R S a e i n w v:Int}(h:-a*P+e*Q-i*R+n*S=w)(k:t*w=v):a*-(t*P)+(e*(t*Q)+(i*-(t*R)+(n*(t*S)+0)))=v:=by grind
theorem bm4(a b c d e f g h i j l m n o p q t:Int)(ht:t=d4 a b c d e f g h i j l m n o p q)(h1:t*t=1):jH [[t*d3 f g h j l m o p q,-(t*d3 b c d j l m o p q),t*d3 b c d f g h o p q,-(t*d3 b c d f g h j l m)],[-(t*d3 e g h i l m n p q),t*cI! c d i l m n p q,-(t*cI! c d e g h n p q),t*cI! c d e g h i l m],[t*d3 e f h i j m n o q,-(t*cJ! d i j m n o q),t*cJ! d e f h n o q,-(t*cJ! d e f h i j m)],[-(t*d3 e f g i j l n o p),t*aS! i j l n o p,-(t*aS! e f g n o p),t*aS! e f g i j l]] [[a,b,c,d],[e,f,g,h],[i,j,l,m],[n,o,p,q]]=one 4/\jH [[a,b,c,d],[e,f,g,h],[i,j,l,m],[n,o,p,q]] [[t*d3 f g h j l m o p q,-(t*d3 b c d j l m o p q),t*d3 b c d f g h o p q,-(t*d3 b c d f g h j l m)],[-(t*d3 e g h i l m n p q),t*cI! c d i l m n p q,-(t*cI! c d e g h n p q),t*cI! c d e g h i l m],[t*d3 e f h i j m n o q,-(t*cJ! d i j m n o q),t*cJ! d e f h n o q,-(t*cJ! d e f h i j m)],[-(t*d3 e f g i j l n o p),t*aS! i j l n o p,-(t*aS! e f g n o p),t*aS! e f g i j l]]=one 4:=by
 have k0:=Int.mul_zero t;have k1:t*d4 a b c d e f g h i j l m n o p q=1:=ht ▸ h1;exact⟨h0! (h0! (zmu (zt3 a b c d e f g h i j l m n o p q) k1) (zmu (zt8 a b c d e f g h i j l m n o p q) k0) (dV! (zmu (zuA a b c d e f g h i j l m n o p q) k0) (zmu (ztK a b c d e f g h i j l m n o p q) k0))) (h0! (zlJ (zuT a b c d e f g h i j l m n o p q) k0) (zlJ (ztN a b c d e f g h i j l m n o p q) k1) (dV! (zlJ (zuO a b c d e f g h i j l m n o p q) k0) (zlJ (zva a b c d e f g h i j l m n o p q) k0))) (dV! (h0! (zmu (zt9 a b c d e f g h i j l m n o p q) k0) (zmu (zux a b c d e f g h i j l m n o p q) k0) (dV! (zmu (zuJ a b c d e f g h i j l m n o p q) k1) (zmu (zsq a b c d e f g h i j l m n o p q) k0))) (h0! (zlJ (zsG a b c d e f g h i j l m n o p q) k0) (zlJ (zsU a b c d e f g h i j l m n o p q) k0) (dV! (zlJ (zuP a b c d e f g h i j l m n o p q) k0) (zlJ (zv6 a b c d e f g h i j l m n o p q) k1)))), h0! (h0! (zmw (ze3 a b c d e f g h i j l m n o p q) k1) (zm2 (zrG a b c d e f g h i j l m n o p q) k0) (dV! (zmw (zq0 a b c d e f g h i j l m n o p q) k0) (zm2 (zpx a b c d e f g h i j l m n o p q) k0))) (h0! (zmw (zqu a b c d e f g h i j l m n o p q) k0) (zm2 (ze1 a b c d e f g h i j l m n o p q) k1) (dV! (zmw (zrr a b c d e f g h i j l m n o p q) k0) (zm2 (zqz a b c d e f g h i j l m n o p q) k0))) (dV! (h0! (zmw (zr3 a b c d e f g h i j l m n o p q) k0) (zm2 (zpF a b c d e f g h i j l m n o p q) k0) (dV! (zmw (zd2 a b c d e f g h i j l m n o p q) k1) (zm2 (zrK a b c d e f g h i j l m n o p q) k0))) (h0! (zmw (zrQ a b c d e f g h i j l m n o p q) k0) (zm2 (zpZ a b c d e f g h i j l m n o p q) k0) (dV! (zmw (zpI a b c d e f g h i j l m n o p q) k0) (zm2 (zdu a b c d e f g h i j l m n o p q) k1))))⟩
abbrev Sz(n:Nat):g!:=n=2\/n=3\/n=4
theorem zej(ha:id!)(hb:e8! B):e8! (jH A B):=by
 refine⟨by simp[jH,yi,hb.len],dh! ?_⟩;obtain⟨j,_,rfl⟩:=jX!;simp[(show t! (yi B)=n from by simp[yi,hb.len])]
theorem z1B(ha:id!):e8! (gV! A):=by
 refine⟨by simp[back,ha.len],dh! ?_⟩;obtain⟨j,_,rfl⟩:=jX!;simp[ha.len]
theorem z4q(n:Nat):e8! bB!:=by
 refine⟨by simp[one],dh! ?_⟩;obtain⟨j,_,rfl⟩:=jX!;simp
def z0R(A:Tb):g!:=eV! A=1\/eV! A=-1
theorem z0R.sq(h:z0R A):eV! A*eV! A=1:=by rcases h with h | h<;>rw[h]<;>decide
theorem z7O(hn:be!)(ha:id!)(hf:z0R A):jH (gV! A) A=bB!/\jH A (gV! A)=bB!:=by
 have sq:=hf.sq;rcases hn with rfl | rfl | rfl
 ·obtain⟨a,b,c,d,rfl⟩:=zea ha;rw[zb2]at sq;rw[zsC];exact bm2 a b c d _ rfl sq
 ·obtain⟨a1,a2,a3,a4,a5,a6,a7,a8,a9,rfl⟩:=zeH ha;rw[z8P 1]at sq;rw[ztu];exact bm3 _ _ _ _ _ _ _ _ _ _ rfl sq
 ·obtain⟨a1,a2,a3,a4,a5,a6,a7,a8,a9,a10,a11,a12,ii,ij,ik,li,rfl⟩:=zep ha;rw[kT 0]at sq;rw[zsV];exact bm4 _ _ _ _ _ _ _ _ _ _ _ _ _ _ _ _ _ rfl sq
theorem zii(hn:be!)(ha:id!)(hb:e8! B)(hf:z0R A)(hg:z0R B):z0R (jH A B):=by
 unfold z0R;rw[(zeI hn ha hb)];rcases hf with e | e<;>rcases hg with f | f<;>rw[e,f]<;>decide
theorem znw(hn:be!)(ha:id!)(hf:z0R A)(hv:z!=n):mv (gV! A) (mv A v)=v:=by rw[<- zgC hn (z1B ha) ha hv,(z7O hn ha hf).1,zgR hn hv]
def Bd(m:Nat)(T:Tb):g!:=∀r∈T,∀x∈r,de! m
theorem zhg{a b:Int} (ha:or!<2 ^ m)(hb:b.natAbs<2 ^ k):aZ! (a*b)<2 ^ (m+k):=by
 rw[_aD,_bZ];exact _ch ha hb
theorem znP: ∀{xs:List Int},(∀x∈xs,de! m)->w!<=4->xs.sum.natAbs<2 ^ (m+2):=by
 intro xs h hl;cases xs with
 | nil=>exact _cB _ | cons x xs=>
  have h1:=h x (by simp);have h2:=(show ∀ys:List Int,(∀x∈ys,de! m)->ys.sum.natAbs<=cO!*2 ^ m from by
  intro ys;induction ys with
  | nil=>simp | cons y ys ih=>
   intro h;have h1:=h y (by simp);have h2:=ih (ac! (h x (by simp[hx])));rw[_aN,_d,_df,Nat.one_mul];refine _G (_dg _ _) ?_;rw[Nat.add_comm q8!];exact _bC h2 (_bg h1)) xs (cN! (h y (by simp[hy])));simp only[_d]at hl;have h4:w!*2 ^ m<=3*2 ^ m:=_aE _ (by omega);rw[_aN,_bZ];refine _bj (_dg _ _) (_j (Nat.add_lt_add_of_lt_of_le h1 (_G h2 h4)) ?_);show 2 ^ m+3*2 ^ m<=2 ^ m*4;generalize 2 ^ m=p;omega
theorem zero_lt_two(m:Nat):aZ! (j! 0)<2 ^ m:=_cB _
theorem z6C{r:h!}(hr:∀x∈r,de! m)(j:Nat):aZ! (cT! j)<2 ^ m:=by
 by_cases h:j<aK!
 ·rw[List.getD,_b h];exact hr _ (_J _)
 ·rw[List.getD,_M (by omega)];exact zero_lt_two m
theorem zmY(h:Bd m T):Bd m (yi T):=λr hr x hx=>by
 obtain⟨j,_,rfl⟩:=jX!;obtain⟨q,hq,rfl⟩:=gB!;exact z6C (h q hq) j
theorem z4m(h:Bd m T)(i j:Nat):Bd m (fl! i j):=λr hr x hx=>by
 obtain⟨q,hq,rfl⟩:=jX!;exact h q (m1! hq _T _aF) x (m1! hx _T _aF)
theorem zgy{α:bD!}{l:et!}{j:Nat}(h:j<hT!):t! (l.take j++l.drop (j+1))=hT!-1:=by
 obtain⟨k,e⟩:=Nat.exists_eq_add_of_le h;rw[_as,_bE,_ay,e,Nat.min_eq_left (by rw[Nat.succ_add];exact _bx (_cf ..)),Nat.add_sub_cancel_left,Nat.succ_add];rfl
theorem z67(hi:i<bt!):t! (fl! i j)=bt!-1:=by rw[z2F,_z,zgy hi]
theorem zhj(i j:Nat):aZ! (sg i j)=1:=by unfold sg;split<;>rfl
theorem zng{n m:Nat}(h:1<=n):m+((n-1)*m+2*(n-1))<=n*m+2*n-2:=by
 obtain⟨k,rfl⟩:=Nat.exists_eq_add_of_le h;rw[Nat.add_sub_cancel_left,_df,Nat.one_mul];generalize k*m=p;omega
theorem znv{n p:Nat}(h:1<=n):p+2*n=(p+2*n-2)+2:=by omega
theorem zeB: ∀(k:Nat) (T:Tb),Bd m T->1<=bt!->bt!<=4->jV! k T<2 ^ (bt!*m+2*bt!)
 | 0,T,_,_,_=>zero_lt_two _ | k+1,T,h,h1,h4=>by
  rw[det];split
  ·rename_i e;rw[e];exact _j (z6C (by
    rw[List.getD,_b (by omega)];exact h _ (_J _)) 0) (_B (by decide) (by omega))
  ·rw[znv h1];refine znP (ac! ?_) (by simp;exact h4);obtain⟨j,hj,rfl⟩:=gB!;have hw:=z67 (T:=T) (i:=0) (j:=j) (by omega);have b2:=zeB k (fl! 0 j) (z4m h 0 j) (by omega) (by omega);rw[hw]at b2;rw[_aD,_aD,zhj,Nat.one_mul];have b3:=_ch (show aZ! (bg! (jZ! 0) j)<2 ^ m from by
    refine z6C ?_ j;rw[List.getD,_b (by omega)];exact h _ (_J _)) b2;rw[<- _bZ]at b3;exact _j b3 (_B (by decide) (zng h1))
theorem zn9(h:Bd m A)(h1:2<=q9!)(h4:q9!<=4)(hf:z0R A):Bd (3*m+6) (gV! A):=λr hr x hx=>by
 obtain⟨i,hi,rfl⟩:=jX!;obtain⟨j,hj,rfl⟩:=gB!;have hw:=z67 (j:=i) (by simpa using hj);rw[_aD,_aD,zhj,(show jV! 4 A=1 from by rcases hf with e | e<;>rw[e]<;>rfl),Nat.one_mul];refine _j (zeB 4 (z2F A j i) (z4m h j i) (by omega) (by omega)) (_B (by decide) ?_);rw[hw];have:(q9!-1)*m<=3*m:=_aE _ (by omega);omega
theorem Tab.le(h:hf!)(hn:be!):∀r∈T,aK!<=4:=dh! (by rw[jM! r hr];omega)
open L2 (maxL minL maxL_ge maxL_mem minL_le minL_mem)
inductive Rl where | nx | le | al | tu deriving DecidableEq
structure Lot(n:Nat)(v:h!):g! where
 sz:be!
 len:z!=n
 nn:∀x∈v,0<=x
 pos:∃x∈v,0<x
noncomputable def nz(v:h!):h!:=v.filter λx=>cz! x 0
noncomputable def ended(v:h!):Bool:=bl! (hy! v=1)
noncomputable def gp(v:h!):Nat:=ra! jl!
noncomputable def others(v:h!):h!:=v.take bd!++[0]++v.drop (bd!+1)
noncomputable def lp(v:h!):Nat:=ra! (jh! v)
noncomputable def wX(v:h!)(p:Nat):jY!:=kP! pY! (λi=>cz! i p)
def deal:Rl->h!->Nat×jY!
 | .nx,v=>((c3!).idxOf hv!,[bd!]) | .le,v=>(lp c3!,[bd!]) | .al,v=>(lp v,wX v (lp v)) | .tu,v=>(0,ak! fW! 0 [] (wX v 0))
noncomputable def yW(v:h!)(d:Nat×jY!):h!:=aT! z! (λi=>an! (i∈d.2) (b3! / bu! d.1) 0)
def rot{α:bD!}(xs:et!):et!:=lB! 1++nj! 1
noncomputable def mvd(r:Rl)(xs:et!):et!:=ak! r .tu (rot xs) xs
noncomputable def left(v qs:h!)(b:Nat):h!:=oC! (λx q=>x-q*fU!) v qs
noncomputable def stp(r:Rl)(v:h!):h!:=hi! (cH! du! aR!)
noncomputable def qr(b:Nat)(line:h!)(q:Int):h!:=line.take b++[line.getD b 0+q]++line.drop (b+1)
noncomputable def z87(r:Rl)(b:Nat)(qs:h!):Tb:=pZ! (hi! (qr b line q)) p2! qs
noncomputable def ky(r:Rl)(v:h!):Tb:=z87 r aR! du!
@[simp] theorem znK:dot [] []=0:=V!
@[simp] theorem dot_cons(a b:Int) (r v:h!):dot (a::r) (b::v)=a*b+ei! r:=rfl
theorem qX:∀{r c r' c':List Int},aK!=c.length->dot (r++r') (c++c')=dot r c+dot r' c'
 | [],[],_,_,_=>by simp | a::r,b::c,r',c',h=>by
  simp only[_bF,dot_cons,(qX (r':=r') (c':=c') (by simpa using h))];lia | [],_::_,_,_,h=>by simp at h | _::_,[],_,_,h=>by simp at h
noncomputable def zix(z:Int)(c q:h!):h!:=oC! (λx q=>x-q*z) c q
theorem zd7(z:Int):∀{r c q:List Int},aK!=c.length->c.length=q.length->dot r (zix z c q)=dot r c-dot r q*z
 | [],[],[],_,_=>by simp[zix] | a::r,b::c,p::q,h1,h2=>by
  have:=zd7 z (by simpa using h1) (by simpa using h2);simp only[zix]at this;simp only[zix,_a1,dot_cons,this];grind | [],_::_,_,h,_=>by simp at h | _::_,[],_,h,_=>by simp at h | _,[],_::_,_,h=>by simp at h | _,_::_,[],_,h=>by simp at h
theorem zeF:∀{r c:List Int},(∀x∈r,0<=x)->(∀x∈c,0<=x)->0<=dot r c
 | [],[],_,_=>by simp | [],_::_,_,_=>by simp[dot] | _::_,[],_,_=>by simp[dot] | a::r,b::c,h1,h2=>by
  have i:=zeF (r:=r) (c:=c) (ac! (h1 x (by simp[hx]))) (ac! (h2 x (by simp[hx])));have j:=_be (h1 a (by simp)) (h2 b (by simp));simp only[dot_cons];lia
theorem zoe(h:aK!=c.length):dot (rot r) (rot c)=dot r c:=by match r,c,h with
 | [],[],_=>rfl | a::r,b::c,h=>
  show dot (r++[a]) (c++[b])=_;rw[qX (by simpa using h)];simp only[dot_cons,znK];lia | [],_::_,h=>simp at h | _::_,[],h=>simp at h
theorem zp6(l:Rl)(h:aK!=c.length):dot (mvd l r) (mvd l c)=dot r c:=by
 unfold mvd;split;·exact zoe h
 ·rfl
theorem zid{xs:et!}:x∈rot xs ↔ x∈xs:=by cases xs with
 | nil=>simp[rot] | cons a xs=>simp[rot,or_comm]
theorem z46{xs:et!} : x∈mvd l xs ↔ x∈xs:=by
 unfold mvd;split;·exact zid
 ·rfl
theorem zn7(xs:et!):t! (rot xs)=w!:=by cases xs<;>simp[rot]
theorem zaN(xs:et!):t! (mvd l xs)=w!:=by
 unfold mvd;split;·exact zn7 xs
 ·rfl
structure Qs(v:h!)(b:Nat)(qs:h!):g! where
 lt:b<z!
 len:kg!=z!
 zero:G! qs b 0
 nn:∀q∈qs,0<=q
 fit:∀i,0<=b3!-qs.getD i 0*fU!
 pos:(∀q∈qs,q=0)\/0<fU!
theorem z66{α:bD!}{v:et!} (h:b<z!):∃v1 z v2,v=v1++z::v2/\oE!=b:= ⟨v.take b,v[b],v.drop (b+1),by rw[<- _bJ h,_ca],by simp;lia⟩
noncomputable def zke(b:Nat)(qs r:h!):h!:=r.set b (cT! b+dot r qs)
theorem getD_at{α:bD!}{v1 v2:et!}{z d:α} (h:oE!=b):(v1++z::v2).getD b d=z:=by
 subst h;simp[List.getD]
theorem Qs.split{v qs r:h!} (h:Qs v b qs)(hr:aK!=z!):∃v1 z v2 q1 q2 r1 y r2,v=v1++z::v2/\qs=q1++0::q2/\r=r1++y::r2/\oE!=b/\q1.length=b/\r1.length=b/\q2.length=v2.length/\r2.length=v2.length:=by
 obtain⟨v1,z,v2,rfl,e1⟩:=z66 h.lt;obtain⟨q1,p,q2,rfl,e2⟩:=z66 (by rw[h.len];exact h.lt);obtain⟨r1,y,r2,rfl,e3⟩:=z66 (by rw[hr];exact h.lt);have hz:=h.zero;rw[<- e2]at hz;simp at hz;subst hz;have l1:=h.len;simp at l1 hr;exact⟨v1,z,v2,q1,q2,r1,y,r2,rfl,rfl,rfl,e1,e2,e3,by lia,by lia⟩
theorem z9l(h1:oE!=b) (h2:q1.length=b):left (v1++z::v2) (q1++0::q2) b=zix z v1 q1++z::zix z v2 q2:=by
 unfold left zix;rw[getD_at h1,List.zipWith_append (by lia)];simp
theorem zn1(h:Qs v b qs)(hr:aK!=z!):dot (zke b qs r) (cH! qs b)=ei! r:=by
 obtain⟨v1,z,v2,q1,q2,r1,y,r2,rfl,rfl,rfl,e1,e2,e3,e4,e5⟩:=h.split hr;rw[z9l e1 e2];unfold zke;rw[<- e3,List.set_append_right _ _ (by lia)];simp only[_dS,_F];rw[qX (by simp[zix];lia),qX (by lia),qX (by lia)];simp only[dot_cons];rw[zd7 z (by lia) (by lia),zd7 z (by lia) (by lia)];grind
theorem uT(h:kg!=z!):t! (cH! qs b)=z!:=by simp[left,h]
theorem zhx(h:Qs v b qs):∀x∈cH! qs b,0<=x:=ac! (by
 obtain⟨i,hi,e⟩:=qc!;have:=h.fit i;have hl:=uT (b:=b) h.len;have h1:i<z!:=by lia
 simp only[List.getD,_b h1,_b (by rw[h.len];exact h1),_aG]at this;rw[<- e];simpa[left,List.getD] using this)
structure zvo(B:Int)(r c:h!)(x:Int):g! where
 len:aK!=c.length
 nn:∀y∈r,0<=y/\y<=B
 dot:dot r c=x
theorem zkW(l:Rl) (h:Qs v b qs) (hx:x<=B) (I:zvo B r v x):zvo B (mvd l (zke b qs r)) (mvd l (cH! qs b)) x:=by
 have hd:=zn1 h lE!;have rl:t! (zke b qs r)=aK!:=by simp[zke]
 have ll:=uT (b:=b) h.len;refine⟨by rw[zaN,zaN,rl,ll,I.len],cN! ?_,by rw[zp6 l (by rw[rl,ll,I.len]),hd,I.dot]⟩;rw[z46]at hy;have ln:=zhx h;obtain⟨v1,z,v2,q1,q2,r1,u,r2,rfl,rfl,rfl,e1,e2,e3,e4,e5⟩:=h.split lE!;rw[z9l e1 e2]at hd ln;unfold zke at hy hd;rw[(show (r1++u::r2).set b (bg! (r1++u::r2) b+pG! (r1++u::r2) (q1++0::q2))=r1++(u+pG! (r1++u::r2) (q1++0::q2))::r2 from by
  rw[getD_at e3,<- e3,List.set_append_right _ _ (by lia)];simp only[_dS,_F])]at hy hd;have dq := zeF (ac! (I.nn x hx).1) f2!;have hu:=I.nn u (by simp);rcases nl! hy with hy | hy;·exact I.nn y (by simp[hy])
 ·rcases ep! hy with rfl | hy
  ·rcases h.pos with h0 | h0
   ·have dz:pG! (r1++u::r2) (q1++0::q2)=0:=(show ∀(r q:List Int),(∀x∈q,x=0)->pG! r q=0 from by
      intro r;induction r with
      | nil=>intro q _;cases q<;>simp[Pm.dot] | cons a r ih=>
       intro q hq;cases q with
       | nil=>simp[Pm.dot] | cons p q=>rw[dot_cons,ih q (ac! (hq x (by simp[hx]))),hq p (by simp)];simp) _ _ h0;lia
   ·rw[getD_at e1]at h0;rw[qX (by simp[zix];lia),dot_cons]at hd;have n1:0<=pG! r1 (zix z v1 q1):=zeF (ac! (I.nn x (by simp[hx])).1) (ac! (ln x (by simp[hx])));have n2:0<=pG! r2 (zix z v2 q2):=zeF (ac! (I.nn x (by simp[hx])).1) (ac! (ln x (by simp[hx])));have dt:=I.dot;generalize pG! (r1++u::r2) (q1++0::q2)=dd at *;have m1:(u+dd)*1<=(u+dd)*z:=_cs (by lia) (by lia);lia
  ·exact I.nn y (by simp[hy])
theorem zaY(xs:et!):mvd .tu xs=rot xs:=by rfl
theorem z9a(h:r≠.tu)(xs:et!):hi! xs=xs:=by simp[mvd,h]
theorem zjK(P:Tb->g!)(r:Rl)(hn:be!)(hq:kg!=n)(hb:b<n)(hz:G! qs b 0) (oy:∀q,P [[1,0],[q,1]])(oz:∀q,P [[1,q],[0,1]]) (iH:∀p q,P [[1,0,0],[p,1,0],[q,0,1]])(oA:∀p q,P [[1,p,0],[0,1,0],[0,q,1]])(oB:∀p q,P [[1,0,p],[0,1,q],[0,0,1]]) (oC:∀p q s,P [[1,0,0,0],[p,1,0,0],[q,0,1,0],[s,0,0,1]])(oE:∀p q s,P [[1,p,0,0],[0,1,0,0],[0,q,1,0],[0,s,0,1]]) (oF:∀p q s,P [[1,0,p,0],[0,1,q,0],[0,0,1,0],[0,0,s,1]])(oG:∀p q s,P [[1,0,0,p],[0,1,0,q],[0,0,1,s],[0,0,0,1]]) (t:∀T,hf!->P T->P (oD! rot)):P (z87 r b qs):=by
 have main:P (pZ! (qr b line q) p2! qs):=by
  rcases hn with rfl | rfl | rfl
  ·obtain⟨x,y,rfl⟩:=z9O hq;match b,hb with
   | 0,_=>obtain rfl:x=0:=hK!;exact (show P [[1+0,0],[0+y,1]] by simpa only [_aP,_a0] using oy y) | 1,_=>obtain rfl:y=0:=hK!;exact (show P [[1,0+x],[0,1+0]] by simpa only [_aP,_a0] using oz x)
  ·obtain⟨x,y,z,rfl⟩:=z8f hq;match b,hb with
   | 0,_=>obtain rfl:x=0:=hK!;exact (show P [[1+0,0,0],[0+y,1,0],[0+z,0,1]] by simpa only [_aP,_a0] using iH y z) | 1,_=>obtain rfl:y=0:=hK!;exact (show P [[1,0+x,0],[0,1+0,0],[0,0+z,1]] by simpa only [_aP,_a0] using oA x z) | 2,_=>obtain rfl:z=0:=hK!;exact (show P [[1,0,0+x],[0,1,0+y],[0,0,1+0]] by simpa only [_aP,_a0] using oB x y)
  ·obtain⟨x,y,z,w,rfl⟩:=z6X hq;match b,hb with
   | 0,_=>obtain rfl:x=0:=hK!;exact (show P [[1+0,0,0,0],[0+y,1,0,0],[0+z,0,1,0],[0+w,0,0,1]] by simpa only [_aP,_a0] using oC y z w) | 1,_=>obtain rfl:y=0:=hK!;exact (show P [[1,0+x,0,0],[0,1+0,0,0],[0,0+z,1,0],[0,0+w,0,1]] by simpa only [_aP,_a0] using oE x z w) | 2,_=>obtain rfl:z=0:=hK!;exact (show P [[1,0,0+x,0],[0,1,0+y,0],[0,0,1+0,0],[0,0,0+w,1]] by simpa only [_aP,_a0] using oF x y w) | 3,_=>obtain rfl:w=0:=hK!;exact (show P [[1,0,0,0+x],[0,1,0,0+y],[0,0,1,0+z],[0,0,0,1+0]] by simpa only [_aP,_a0] using oG x y z)
 by_cases hr:r=.tu
 ·subst hr;have:z87 .tu b qs=(pZ! (qr b line q) p2! qs).map rot:=by
   unfold z87;rw[_bf];rfl
  rw[this];exact t _ (by
  refine⟨by simp[one,hq],λl hl=>?_⟩;obtain⟨i,hi,rfl⟩:=gr! hl;simp at hi;simp[qr,one];lia) main
 ·rw[(show z87 r b qs=pZ! (qr b line q) p2! qs from by
   unfold z87;simp only[z9a hr])];exact main
theorem zlk(r:Rl)(hn:be!)(hq:kg!=n)(hb:b<n):e8! (z87 r b qs):=by
 refine⟨by simp[z87,one,hq],λl hl=>?_⟩;obtain⟨i,hi,rfl⟩:=gr! hl;simp[z87,zaN,qr,one];lia
theorem zli(hn:be!)(h:hf!)(hf:z0R T):z0R (oD! rot):=by
 unfold z0R at hf ⊢;rcases hn with rfl | rfl | rfl
 ·obtain⟨a,b,c,d,rfl⟩:=zea h;simp only[_u,List.map_nil,rot,List.drop_one,List.tail_cons,_cD,List.take_zero,_bF,_aw];rw[zb2]at hf ⊢;simp only[d2]at hf ⊢;grind
 ·obtain⟨a,b,c,d,e,f,g,i,j,rfl⟩:=zeH h;simp only[_u,List.map_nil,rot,List.drop_one,List.tail_cons,_cD,List.take_zero,_bF,_aw];rw[z8P 1]at hf ⊢;simp only[d3,d2]at hf ⊢;grind
 ·obtain⟨a,b,c,d,e,f,g,i,j,k,l,m,n,o,p,q,rfl⟩:=zep h;simp only[_u,List.map_nil,rot,List.drop_one,List.tail_cons,_cD,List.take_zero,_bF,_aw];rw[kT 0]at hf ⊢;have e1:d4 b c d a f g i e k l m j o p q n=- d4 a b c d e f g i j k l m n o p q:=by simp only[d4,d3,d2];grind
  lia
theorem zi5(r:Rl)(hn:be!)(hq:kg!=n)(hb:b<n)(hz:G! qs b 0):z0R (z87 r b qs):=by
 refine zjK z0R r hn hq hb hz ?_ ?_ ?_ ?_ ?_ ?_ ?_ ?_ ?_ λT hT hf=>zli hn hT hf;·intro q;unfold z0R;rw[zb2];simp[d2]
 ·intro q;unfold z0R;rw[zb2];simp[d2]
 ·intro p q;unfold z0R;rw[z8P 1];simp[d3,d2]
 ·intro p q;unfold z0R;rw[z8P 1];simp[d3,d2]
 ·intro p q;unfold z0R;rw[z8P 1];simp[d3,d2]
 ·intro p q s;unfold z0R;rw[kT 0];simp[d4,d3,d2]
 ·intro p q s;unfold z0R;rw[kT 0];simp[d4,d3,d2]
 ·intro p q s;unfold z0R;rw[kT 0];simp[d4,d3,d2]
 ·intro p q s;unfold z0R;rw[kT 0];simp[d4,d3,d2]
noncomputable def zdV(T:Tb)(r:h!):h!:=(yi T).map (dot r)
theorem z0L(hn:be!)(ha:id!)(ht:hf!):jH A T=A.map (zdV T):=by
 rcases hn with rfl | rfl | rfl
 ·obtain⟨a,b,c,d,rfl⟩:=zea ha;obtain⟨e,f,g,h,rfl⟩:=zea ht;rfl
 ·obtain⟨a1,a2,a3,a4,a5,a6,a7,a8,a9,rfl⟩:=zeH ha;obtain⟨b1,b2,b3,b4,b5,b6,b7,b8,b9,rfl⟩:=zeH ht;rfl
 ·obtain⟨a1,a2,a3,a4,a5,a6,a7,a8,a9,a10,a11,a12,ii,ij,ik,li,rfl⟩:=zep ha;obtain⟨b1,b2,b3,b4,b5,b6,b7,b8,b9,oh,oj,om,oo,oq,ou,ox,rfl⟩:=zep ht;rfl
theorem zkK(hn:be!)(h:hf!):zdV (oD! rot) r=rot (zdV T r):=by
 rcases hn with rfl | rfl | rfl
 ·obtain⟨a,b,c,d,rfl⟩:=zea h;rfl
 ·obtain⟨a,b,c,d,e,f,g,i,j,rfl⟩:=zeH h;rfl
 ·obtain⟨a,b,c,d,e,f,g,i,j,k,l,m,n,o,p,q,rfl⟩:=zep h;rfl
theorem zuw(y x' y':Int):x'*(1+0)+(y'*(0+y)+0)=x'+(x'*0+(y'*y+0)):=by grind
theorem zv5(x x' y':Int):x'*(0+x)+(y'*(1+0)+0)=y'+(x'*x+(y'*0+0)):=by grind
theorem ztB(y z x' y' z':Int):x'*(1+0)+(y'*(0+y)+(z'*(0+z)+0))=x'+(x'*0+(y'*y+(z'*z+0))):=by grind
theorem zv2(x z x' y' z':Int):x'*(0+x)+(y'*(1+0)+(z'*(0+z)+0))=y'+(x'*x+(y'*0+(z'*z+0))):=by grind
theorem zuF(x y x' y' z':Int):x'*(0+x)+(y'*(0+y)+(z'*(1+0)+0))=z'+(x'*x+(y'*y+(z'*0+0))):=by grind
theorem zsx(y z w x' y' z' w':Int):x'*(1+0)+(y'*(0+y)+(z'*(0+z)+(w'*(0+w)+0)))=x'+(x'*0+(y'*y+(z'*z+(w'*w+0)))):=by grind
theorem zsI(x z w x' y' z' w':Int):x'*(0+x)+(y'*(1+0)+(z'*(0+z)+(w'*(0+w)+0)))=y'+(x'*x+(y'*0+(z'*z+(w'*w+0)))):=by grind
theorem ztj(x y w x' y' z' w':Int):x'*(0+x)+(y'*(0+y)+(z'*(1+0)+(w'*(0+w)+0)))=z'+(x'*x+(y'*y+(z'*0+(w'*w+0)))):=by grind
theorem zvg(x y z x' y' z' w':Int):x'*(0+x)+(y'*(0+y)+(z'*(0+z)+(w'*(1+0)+0)))=w'+(x'*x+(y'*y+(z'*z+(w'*0+0)))):=by grind
theorem zj6(r:Rl)(hn:be!)(hq:kg!=n)(hb:b<n)(hz:G! qs b 0)(hr:row.length=n):zdV (z87 r b qs) row=hi! (zke b qs row):=by
 have main:zdV (pZ! (qr b line q) p2! qs) row=zke b qs row:=by
  rcases hn with rfl | rfl | rfl
  ·obtain⟨x,y,rfl⟩:=z9O hq;obtain⟨x',y',rfl⟩:=z9O hr;have u:=zvJ x' y';match b,hb with
   | 0,_=>obtain rfl:x=0:=hK!;exact dV! (zuw ..) u.2 | 1,_=>obtain rfl:y=0:=hK!;exact dV! u.1 (zv5 ..)
  ·obtain⟨x,y,z,rfl⟩:=z8f hq;obtain⟨x',y',z',rfl⟩:=z8f hr;have u:=zvM x' y' z';match b,hb with
   | 0,_=>obtain rfl:x=0:=hK!;exact zx (ztB ..) (dV! u.2.1 u.2.2) | 1,_=>obtain rfl:y=0:=hK!;exact zx u.1 (dV! (zv2 ..) u.2.2) | 2,_=>obtain rfl:z=0:=hK!;exact zx u.1 (dV! u.2.1 (zuF ..))
  ·obtain⟨x,y,z,w,rfl⟩:=z6X hq;obtain⟨x',y',z',w',rfl⟩:=z6X hr;have u:=zvs x' y' z' w';match b,hb with
   | 0,_=>obtain rfl:x=0:=hK!;exact h0! (zsx ..) u.2.1 (dV! u.2.2.1 u.2.2.2) | 1,_=>obtain rfl:y=0:=hK!;exact h0! u.1 (zsI ..) (dV! u.2.2.1 u.2.2.2) | 2,_=>obtain rfl:z=0:=hK!;exact h0! u.1 u.2.1 (dV! (ztj ..) u.2.2.2) | 3,_=>obtain rfl:w=0:=hK!;exact h0! u.1 u.2.1 (dV! u.2.2.1 (zvg ..))
 by_cases h:r=.tu
 ·subst h;have e:z87 .tu b qs=(pZ! (qr b line q) p2! qs).map rot:=by
   unfold z87;rw[_bf];rfl
  rw[e,zkK hn (by
  refine⟨by simp[one,hq],λl hl=>?_⟩;obtain⟨i,hi,rfl⟩:=gr! hl;simp at hi;simp[qr,one];lia),main,zaY]
 ·rw[(show z87 r b qs=pZ! (qr b line q) p2! qs from by
   unfold z87;simp only[z9a h]),main,z9a h]
theorem qD: x∈nz v ↔ x∈v/\x≠0:=by simp[nz]
theorem getD_mem{v:h!} (h:i<z!):b3!∈v:=by simp[_b h]
theorem ux{v:h!}(h:∀x∈v,0<=x)(i:Nat):0<=b3!:=by
 by_cases hi:i<z!;·exact h _ (hq! hi)
 ·simp[_M (rb! hi)]
theorem zbO{v:h!} (h:x∈v):ra! x<z!/\bu! (ra! x)=x:=by
 have hl:=List.idxOf_lt_length_of_mem h;exact⟨hl,by simp[_b hl,_cU hl]⟩
theorem Lot.ne(h:aQ!):a4! v:=λz=>by
 obtain⟨x,hx,_⟩:=h.pos;rw[z]at hx;simp at hx
theorem Lot.nzne(h:aQ!):nz v≠[]:=λz=>by
 obtain⟨x,hx,h0⟩:=h.pos;have := rc! ⟨hx,by lia⟩;rw[z]at this;simp at this
theorem zdm(h:nz v≠[]):lp v<z!/\bu! (lp v)=jh! v/\jh! v≠0:=by
 have m:=sd! h;have:=zbO m.1;exact a3! (iV!).1 (iV!).2 m.2
theorem zdn(h:a4! v):bd!<z!/\bu! bd!=jl!:=zbO (kW! h)
theorem others_eq(h:a4! v):c3!=v.set bd! 0:=by
 unfold others;rw[_b1,_g ((zdn h).1)];simp
theorem uK(h:a4! v)(i:Nat):bg! c3! i=ak! i bd! 0 b3!:=by
 rw[others_eq h];by_cases e:i=bd!
 ·subst e;simp[((zdn h).1)]
 ·simp[e,_ac (_bT e)]
theorem wL(h:a4! v):t! c3!=z!:=by rw[others_eq h];simp
theorem zig:∀{v:List Int}{p:Nat},hy! v≠1->bu! p≠0->∃j,j≠p/\j<z!/\bu! j≠0:=by
 intro v p he hp;apply _Z;intro hn;apply he;obtain⟨v1,z,v2,rfl,e1⟩:=z66 (show p<z! from by
  apply _Z;exact λz=>hp (by simp[_M (rb! z)]));rw[getD_at e1]at hp;have g2:v2.filter (λx=>cz! x 0)=[]:=_bl.mpr (ac! (by simp[(ac! (by
  obtain⟨j,hj,rfl⟩:=qc!;apply _Z;refine λz0=>hn ⟨oE!+1+j,by lia,by simp;lia,?_⟩;rw[List.getD,(show G! (v1++z::v2) (oE!+1+j) (v2[j]) from by rw[_by (by lia),show oE!+1+j-oE!=j+1 by lia,_e,_b hj])];simpa using z0):∀x∈v2,x=0) x hx]))
 simp only[nz,List.filter_append,_az,(_bl.mpr (ac! (by simp[(ac! (by
  obtain⟨j,hj,rfl⟩:=qc!;apply _Z;intro z0;exact hn ⟨j,by lia,by simp;lia,by simpa[_H hj,_b hj] using z0⟩):∀x∈v1,x=0) x hx])):v1.filter (λx=>cz! x 0)=[]),g2];simp[hp]
theorem z9C(he:eD!):hy! v≠1:=by simpa[ended] using he
structure Dl(v:h!)(b:Nat)(dv:jY!):g! where
 lt:b<z!
 nb:b∉dv
 pos:dv=[]\/0<fU!
theorem uD: i∈wX v p ↔ i<z!/\i≠p:=by simp[wX]
theorem zgD(h:aQ!) (hb:b<z!)(h0:bg! c3! b≠0):Dl v b [bd!]/\0<fU!/\fU!<=bu! bd!:=by
 rw[uK e4!]at h0;have p0:0<fU!:=by have:=ux f2! b;lia
 refine a3! ⟨hb,by simpa using (λe=>by rw[_g e]at h0;exact h0 rfl),T! p0⟩ p0 ?_;rw[(zdn e4!).2];exact op! _ (hq! hb)
theorem kG(h:aQ!)(he:eD!):nz c3!≠[]:=by
 have mx:0<jl!:=by
  obtain⟨x,hx,h0⟩:=h.pos;have:=op! x hx;lia
 obtain⟨j,h1,h2,h3⟩:=zig (z9C he) (by rw[(zdn e4!).2];lia);intro z;have := rc! ⟨by
  have:=hq! (by rw[wL e4!];exact h2);rw[uK e4!,_o h1]at this;exact this,h3⟩;rw[z]at this;simp at this
theorem qq(r:Rl)(h:aQ!)(he:eD!):Dl v aR! (mC!).2:=by cases r with
 | nx=>
  have a:=zbO (kW! (λz=>by
   have:=wL e4!;rw[z]at this;exact h.ne (_aY.mp this.symm):a4! c3!));refine (zgD h (by rw[<- wL e4!];exact a.1) ?_).1;show bg! c3! ((c3!).idxOf hv!)≠0;have m:=sd! (kG h he);have m1:=op! _ m.1;have m2:0<=jh! c3!:=by
   obtain⟨i,hi,e⟩:=gr! m.1;have:=uK e4! i;rw[(show bg! c3! i=jh! c3! from by simp[_b hi,e])]at this;rw[this];split;·lia
   ·exact ux f2! i
  lia | le=>
  have a:=zdm (kG h he);refine (zgD h (by rw[<- wL e4!];exact a.1) ?_).1;show bg! c3! (lp c3!)≠0;rw[a.2.1];exact a.2.2 | al=>
  have a:=zdm rd!;refine⟨a.1,by simp[deal,uD],T! ?_⟩;show 0<bu! (lp v);have:=ux f2! (lp v);lia | tu=>
  refine a3! (show 0<z! from by have:=h.sz;rw[h.len];lia) ?_ ?_
  ·show 0∉(ak! fW! 0 [] (wX v 0));split<;>simp[uD]
  ·show (ak! fW! 0 [] (wX v 0))=[]\/0<fW!;split;·exact c7!
   ·have:=ux f2! 0;exact T! (by lia)
theorem xn(v:h!)(d:Nat×jY!):t! (yW v d)=z!:=by simp[yW]
theorem zfS(v:h!)(d:Nat×jY!)(i:Nat):bg! (yW v d) i=an! (i<z!/\i∈d.2) (b3! / bu! d.1) 0:=by
 unfold yW;by_cases hi:i<z!;·simp[hi]
 ·simp[hi]
theorem jv(i:Nat):b3!-bg! (yW v d) i*bu! d.1=an! (i<z!/\i∈d.2) (b3! % bu! d.1) b3!:=by
 rw[zfS];split
 ·have:=_bv b3! (bu! d.1);have e:=_cI (b3! / bu! d.1) (bu! d.1);lia
 ·lia
theorem zfT(hv:∀x∈v,0<=x)(h:Dl v d.1 d.2):Qs v d.1 (yW v d):=by
 refine⟨h.lt,xn _ _,?_,λq hq=>?_,λi=>?_,?_⟩;·simp[yW,h.lt,h.nb]
 ·obtain⟨i,hi,rfl⟩:=gr! hq;simp only[yW,_bG,List.getElem_range];split;·exact _bU (ux hv _) (ux hv _)
  ·lia
 ·rw[jv];split
  ·rename_i hi;rcases h.pos with z | z;·rw[z]at hi;simp at hi
   ·exact _a8 _ (by lia)
  ·exact ux hv i
 ·rcases h.pos with z | z
  ·refine C! (λq hq=>?_);obtain⟨i,hi,rfl⟩:=gr! hq;simp[yW,z]
  ·exact T! z
noncomputable def bl(n:Nat):Nat:=ak! n 0 0 (bl (n / 2)+1)
termination_by n
decreasing_by lia
theorem zd1:bl 0=0:=by rw[bl];rfl
theorem zem(h:n≠0):bl n=bl (n / 2)+1:=by rw[bl,_o h]
theorem zhz:∀(b a:Nat),a<=b->bl a<=bl b:=by
 intro b;induction b using Nat.strongRecOn with | ind b ih=>
  intro a h;by_cases h0:a=0;·subst h0;rw[zd1];lia
  ·rw[zem h0,zem (show b≠0 by lia)];have:=ih (b / 2) (by lia) (a / 2) (by lia);lia
theorem zod(h:2*a<b):bl a<bl b:=by
 rw[zem (show b≠0 by lia)];have:=zhz (b / 2) a (by lia);lia
theorem zpv:∀(k n:Nat),n<2 ^ k->bl n<=k
 | 0,n,h=>by simp at h;subst h;rw[zd1];lia | k+1,n,h=>by
  by_cases h0:n=0;·subst h0;rw[zd1];lia
  ·rw[zem h0];have:=zpv k (n / 2) (by lia);lia
noncomputable def wt(v:h!):Nat:=(v.map λx=>bl ou!).sum
theorem zpJ:∀{u v:List Int},pH!=z!->(∀i,bl (u.getD i 0).toNat<=bl (fI! b3!))->wt u<=wt v/\((∃i,bl (u.getD i 0).toNat<bl (fI! b3!))->wt u<wt v)
 | [],[],_,_=>⟨by decide,λ⟨i,h⟩=>by simp at h⟩ | a::u,b::v,hl,h=>by
  have ih:=zpJ (by simpa using hl) λi=>by exact h (i+1)
  have h0:bl a.toNat<=bl pt!:=by exact h 0
  simp only[wt,_u,_aN]at ih ⊢;refine⟨by lia,λ⟨i,hi⟩=>?_⟩;cases i with
  | zero=>
   have:bl a.toNat<bl pt!:=by exact hi
   lia | succ i=>
   have:=ih.2 ⟨i,by exact hi⟩;lia
 | [],_::_,h,_=>by cases h | _::_,[],h,_=>by cases h
theorem vS(h:kg!=z!)(i:Nat):bg! (cH! qs b) i=b3!-qs.getD i 0*fU!:=by
 unfold left;by_cases hi:i<z!;·simp[List.getElem?_zipWith,_b hi,_b (show i<kg! from by lia)]
 ·simp[List.getElem?_zipWith,_M (rb! hi),_M (rb! (show ¬ i<kg! from by lia))]
theorem za2{u v:h!}(hl:pH!=z!)(h:∀i,u.getD i 0=b3!):u=v:=by
 refine _aM hl λi h1 h2=>?_;simpa[_b h1,_b h2] using (h i)
theorem zla{a b:Int}(h0:0<b)(h:b<=a):2*(a % b)<a:=by
 have h1:=_bv a b;have h2:=_bm a h0;have h5:b*1<=b*(a / b):=_cs (by
  have:=Int.ediv_le_ediv h0 h;rwa [Int.ediv_self (by lia)]at this) (by lia);lia
theorem zgP{a b:Int}(ha:0<=a)(h0:0<b):a % b<=a:=by
 have h1:=_bv a b;have h3:0<=b*(a / b):=_be (by lia) (_bU ha (by lia));lia
theorem zoH(hv:∀x∈v,0<=x)(h:Dl v d.1 d.2):wt (cH! (yW v d) d.1)<=wt v/\((∃i,i<z!/\i∈d.2/\bu! d.1<=b3!)->wt (cH! (yW v d) d.1)<wt v):=by
 have hl:=xn v d;have key:∀i,bg! (cH! (yW v d) d.1) i=an! (i<z!/\i∈d.2) (b3! % bu! d.1) b3!:=λi=>by rw[vS hl,jv]
 have p:∀i,i<z!/\i∈d.2->0<bu! d.1:=eH! (by
  rcases h.pos with z | z;·rw[z]at hi;simp at hi
  ·exact z)
 have w:=zpJ (uT hl) λi=>by
  rw[key];split
  ·rename_i hi;have:=zgP (ux hv i) (p i hi);exact zhz _ _ (by lia)
  ·exact am!
 refine⟨w.1,λ⟨i,h1,h2,h3⟩=>w.2 ⟨i,?_⟩⟩;rw[key,bS! h1 h2];have h0:=p i ⟨h1,h2⟩;have:=zla h0 h3;exact zod (by lia)
theorem zmr(v:h!):wt (rot v)=wt v:=by cases v with
 | nil=>rfl | cons a v=>simp[rot,wt];lia
theorem zfG(h:∀x,x∈a ↔ x∈b)(ha:a4! a):minL a=minL b:=by
 have h1:=minL_le _ ((h _).mp (rS! ha));have h2:=minL_le _ ((h _).mpr (rS! (λz=>by
  have:=(h _).mp (rS! ha);rw[z]at this;cases this)));lia
theorem zqr(h:nz v≠[])(h0:fW!≠jh! v):lp (rot v)<lp v:=by cases v with
 | nil=>exact bO! h (by decide) | cons a t=>
  have m:=(sd! h).1;have ha:a≠jh! (a::t):=by exact h0
  unfold lp;rw[((zfG (λx=>by rw[qD,qD,zid]) h).symm)];generalize jh! (a::t)=m' at *;show List.idxOf m' (t++[a])<_;rw[List.idxOf_append,_g ((ep! m).resolve_left λz=>ha jH!),List.idxOf_cons,show (a==m')=q! from by simpa using ha];simp
noncomputable def mu(r:Rl)(v:h!):Nat:=5*wt v+(ak! r .tu (lp v) 0)
theorem Lot.step{n:Nat}{v:h!}(r:Rl)(h:aQ!)(he:eD!):Lot n dI!:=by
 have dl:=qq r h he;have q:=zfT f2! dl;refine⟨jN!,by rw[stp,zaN,uT mx!,h.len],ac! (zhx q x (z46.mp hx)),?_⟩;have fin:∀x∈cH! du! aR!,0<x->∃x∈dI!,0<x:=λx hx h0=>⟨x,z46.mpr hx,h0⟩;rcases dl.pos with z | z
 ·obtain⟨x,hx,h0⟩:=h.pos;refine fin x ?_ h0;rw[(za2 (uT mx!) λi=>by rw[vS mx!,jv,z];simp)];exact hx
 ·refine fin (bu! aR!) ?_ z;rw[<- (show bg! (cH! du! aR!) aR!=bu! aR! from by rw[vS mx!,jv,_o (λw=>dl.nb w.2)])];exact hq! (by rw[uT mx!];exact dl.lt)
theorem zpr(h:aQ!):lp v<4:=by
 have:=(zdm rd!).1;have:=h.len;have:=h.sz;lia
theorem zsS(r:Rl)(h:aQ!)(he:eD!):mu r dI!<mu r v:=by
 have dl:=qq r h he;have w:=zoH f2! dl;have mn:∀j,j<z!->bu! j≠0->jh! v<=bu! j:=λj hj h0=>minL_le _ (rc! ⟨hq! hj,h0⟩);cases r with
 | nx=>
  have g:=zdn e4!;have:wt (p3! .nx)<wt v:=by
   refine w.2 ⟨bd!,g.1,by simp[deal],?_⟩;rw[g.2];exact op! _ (hq! re!)
  simp only[mu];rw[_o (by decide)];lia | le=>
  have g:=zdn e4!;have:wt (p3! .le)<wt v:=by
   refine w.2 ⟨bd!,g.1,by simp[deal],?_⟩;rw[g.2];exact op! _ (hq! re!)
  simp only[mu];rw[_o (by decide)];lia | al=>
  have l:=zdm rd!;obtain⟨j,h1,h2,h3⟩:=zig (z9C he) (by rw[l.2.1];exact l.2.2);have:wt (p3! .al)<wt v:=by
   refine w.2 ⟨j,h2,by simp[deal,uD,h1,h2],?_⟩;show bu! (lp v)<=_;rw[l.2.1];exact mn j h2 h3
  simp only[mu];rw[_o (by decide)];lia | tu=>
  simp only[mu];rw[_g trivial];have l4:=zpr (h.step .tu he);have same:cH! (yW v (gW! .tu)) (gW! .tu).1=v->fW!≠jh! v->5*wt (p3! .tu)+lp (p3! .tu)<5*wt v+lp v:=λe h0=>by
   have:=zqr rd! h0;rw[(show p3! .tu=rot v from by rw[stp,zaY,e]),zmr];lia
  by_cases z:fW!=0
  ·refine same (za2 (uT (xn _ _)) λi=>?_) λq=>((zdm rd!).2.2 (by rw[<- q,z]))
   ·rw[vS (xn _ _),jv];rw[show (gW! .tu).2=[] from by show (ak! fW! 0 [] (wX v 0))=[];rw[_g z]];simp
  ·by_cases ex:∃i,i<z!/\i≠0/\fW!<=b3!
   ·obtain⟨i,h1,h2,h3⟩:=ex;have:wt (p3! .tu)<wt v:=by
     rw[stp,zaY,zmr];refine w.2 ⟨i,h1,?_,h3⟩;show i∈(ak! fW! 0 [] (wX v 0));rw[_o z];exact uD.mpr ⟨h1,h2⟩
    lia
   ·refine same (za2 (uT (xn _ _)) λi=>?_) λq=>?_
    ·rw[vS (xn _ _),jv];split
     ·rename_i hi;have:¬ fW!<=b3!:=λw=>ex ⟨i,hi.1,(by
       have:=hi.2;simp only[deal,_o z,uD]at this;exact (iV!).2),w⟩;show b3! % fW!=_;exact Int.emod_eq_of_lt (ux f2! i) (by lia)
     ·rfl
    ·obtain⟨j,h1,h2,h3⟩:=zig (z9C he) z;have:=mn j h2 h3;exact ex ⟨j,h2,h1,by lia⟩
inductive Run(r:Rl):h!->fr!->g! | done {v:h!}:nM!=d!->Run r v [v] | step {v:h!}{ls:fr!}:eD!->gk! dI!->Run r v (v::ls)
theorem zmz: ∀(k:Nat)(v:List Int),aQ!->mu r v<=k->∃ls,gk! v/\pI!<=k+1
 | k,v,h,hk=>by cases he:nM! with
  | true=>exact⟨[v],.done he,by simp⟩ | false=>
   have lt:=zsS r h he;match k,hk with
   | 0,hk=>lia | k+1,hk=>
    obtain⟨ls,h1,h2⟩:=zmz (r:=r) k dI! (pe! he) (by lia);exact⟨v::ls,.step he h1,by simp;lia⟩
theorem zqX: ∀{v:List Int},(∀x∈v,ou!<2 ^ m)->wt v<=z!*m
 | [],_=>by simp[wt] | a::v,h=>by
  have ih:=zqX (v:=v) (ac! (h x (by simp[hx])));have:=zpv m a.toNat (h a (by simp));simp only[wt,_u,_aN,_d,Nat.succ_mul]at ih ⊢;lia
theorem zso(h:aQ!)(hb:∀x∈v,ou!<2 ^ m):mu r v<=20*m+3:=by
 have w:=zqX hb;have l:=zpr h;have:z!*m<=4*m:=_aE m (by have:=h.len;have:=h.sz;lia);unfold mu;split<;>lia
noncomputable def cg(a b:Int):Int:=j! (Int.gcd a b)
noncomputable def ui(v:h!):Int:=o4! 0
theorem z60:∀(v:List Int)(a:Int),0<=a->0<=o4! a/\(o4! a ∣ a/\∀x∈v,o4! a ∣ x)/\∀d,d ∣ a->(∀x∈v,d ∣ x)->d ∣ o4! a
 | [],a,h=>⟨h,⟨Int.dvd_refl _,by simp⟩,λd hd _=>hd⟩ | x::v,a,h=>by
  have ih:=z60 v (cg a x) (by simp[cg]);refine⟨ih.1,⟨_bS ih.2.1.1 (_dE ..),cN! ?_⟩,λd hd hx=>(ih.2.2 d (Int.dvd_coe_gcd hd (hx x (by simp))) (cN! (hx y (by simp[hy]))))⟩
  ·rcases ep! hy with rfl | hy;·exact _bS ih.2.1.1 (_dh ..)
   ·exact ih.2.1.2 y hy
theorem zaj(v:h!):0<=b5!:=(z60 v 0 (by lia)).1
theorem z62: ∀x∈v,b5! ∣ x:=(z60 v 0 (by lia)).2.1.2
theorem za3(h:∀x∈v,d ∣ x):d ∣ b5!:=(z60 v 0 (by lia)).2.2 d (_dT d) h
theorem zmR(h:∀d,(∀x∈u,d ∣ x) ↔ (∀x∈v,d ∣ x)):ui u=b5!:= _dF (zaj u) (zaj v) (za3 ((h _).mp z62)) (za3 ((h _).mpr z62))
theorem zf9{v:h!}{P:Int->g!}(h0:P 0):(∀x∈v,P x) ↔ ∀i,P b3!:=by
 constructor
 ·intro h i;by_cases hi:i<z!;·exact h _ (hq! hi)
  ·simp[_M (rb! hi),h0]
 ·intro h x hx;obtain⟨i,hi,rfl⟩:=qc!;simpa[_b hi] using (h i)
theorem zgG(r:Rl)(h:aQ!)(he:eD!):ui dI!=b5!:=by
 have dl:=qq r h he;have q:=zfT f2! dl;refine zmR λd=>?_;rw[(show (∀x∈dI!,d ∣ x) ↔ ∀x∈cH! du! aR!,d ∣ x from by
  constructor;·exact λh x hx=>h x (z46.mpr hx)
  ·exact λh x hx=>h x (z46.mp hx)),zf9 (_dT d),zf9 (_dT d)];constructor
 ·intro hd i;have h1:=hd i;have h2:=hd aR!;rw[(show bg! (cH! du! aR!) aR!=bu! aR! from by rw[vS mx!,jv,_o (λw=>dl.nb w.2)])]at h2;rw[vS mx!]at h1;have:=Int.dvd_add h1 (_bS h2 (Int.dvd_mul_left ..):d ∣ bg! du! i*bu! aR!);rwa [Int.sub_add_cancel]at this
 ·intro hd i;rw[vS mx!];exact Int.dvd_sub (hd i) (_bS (hd aR!) (Int.dvd_mul_left ..))
theorem zmD:∀v:List Int,v.sum=(nz v).sum
 | []=>rfl | a::v=>by
  have:=zmD v;by_cases h:a=0;·subst h;simp[nz]at this ⊢;exact this
  ·simp[nz,h]at this ⊢;exact this
theorem ziT(h:aQ!)(he:nM!=d!):v.sum=b5!:=by
 obtain⟨x,ex⟩:∃x,nz v=[x]:=by match hz:nz v,(show hy! v=1 from by simpa[ended] using he) with | [x],_=>exact cl! x
 have xm:=qD.mp (show x∈nz v by rw[ex];simp);rw[(show v.sum=x from by rw[zmD,ex];simp)];refine _dF (h.nn x xm.1) (zaj v) (za3 (cN! ?_)) (z62 x xm.1);by_cases y0:y=0;·subst y0;exact _dT _
 ·have := rc! ⟨hy,y0⟩;rw[ex]at this;simp at this;subst this;exact Int.dvd_refl _
structure PI(n:Nat)(B:Int)(P:Tb)(c x:h!):g! where
 tab:e8! P
 nn:∀row∈P,∀y∈row,0<=y/\y<=B
 eq:mv P c=x
theorem z1D(r:Rl)(h:aQ!)(he:eD!):e8! fX!:=zlk r jN! (by rw[xn,h.len]) (by rw[<- h.len];exact (qq r h he).lt)
theorem zgK(r:Rl)(h:aQ!)(he:eD!):z0R fX!:=by
 have dl:=qq r h he;exact zi5 r jN! (by rw[xn,h.len]) (by rw[<- h.len];exact dl.lt) (zfT f2! dl).zero
theorem PI.step{n:Nat}{B:Int}{P:Tb}{c x:h!}(r:Rl)(I:PI n B P c x)(hx:∀y∈x,y<=B)(h:Lot n c)(he:ended c=q!):PI n B (jH P (ky r c)) (stp r c) x:=by
 have dl:=qq r h he;have q:=zfT f2! dl;have tt:=z1D r h he;have cu:∀row∈P,zdV (ky r c) row=hi! (zke (deal r c).1 (yW c (deal r c)) row):=λrow hr=>zj6 r jN! (by rw[xn,h.len]) (by rw[<- h.len];exact dl.lt) q.zero (I.tab.row row hr);have ri := λrow hr=>zkW r q (hx _ (by rw[<- I.eq];exact _q.mpr ⟨row,hr,rfl⟩)) ⟨by rw[I.tab.row row hr,h.len],I.nn row hr,rfl⟩;refine⟨zej I.tab tt,λrow hr y hy=>?_,?_⟩
 ·rw[z0L jN! I.tab tt]at hr;obtain⟨w,hw,rfl⟩:=jX!;rw[cu w hw]at hy;exact (ri w hw).nn y hy
 ·rw[z0L jN! I.tab tt,<- I.eq];unfold mv;rw[_ag];refine _aq λw hw=>?_;show dot (zdV (ky r c) w) (stp r c)=dot w c;rw[cu w hw];exact (ri w hw).dot
theorem zqS(n:Nat):∀row∈bB!,∀y∈row,0<=y/\y<=1:=λrow hr y hy=>by
 obtain⟨i,_,rfl⟩:=jX!;obtain⟨j,_,rfl⟩:=_q.mp hy;split<;>lia
theorem PI.start(h:aQ!)(hx:∀y∈v,y<=B):PI n B bB! v v:=by
 have b1:1<=B:=by
  obtain⟨y,hy,h0⟩:=h.pos;have:=hx y hy;lia
 refine⟨z4q n,λrow hr y hy=>?_,zgR jN! h.len⟩;have:=zqS n row hr y hy;lia
theorem zol(r:Rl)(h:aQ!)(he:eD!)(hb:∀y∈v,y<=B):∀row∈fX!,∀y∈row,0<=y/\y<=B:=by
 have e:=((PI.start h hb).step r hb h he).nn;rw[(z5Y jN! (z1D r h he)).1]at e;exact e
theorem zs1(r:Rl)(h:aQ!)(he:eD!)(hb:∀y∈v,y<=B):∀y∈dI!,y<=B:=cN! (by
 have dl:=qq r h he;have q:=zfT f2! dl;obtain⟨i,hi,rfl⟩:=gr! (z46.mp hy);have b:=hb _ (hq! (by rw[<- uT mx!];exact hi));rw[(show (cH! du! aR!)[i]=bg! (cH! du! aR!) i from by simp[_b hi]),vS mx!,jv];split
 ·rename_i w;rcases dl.pos with z | z;·rw[z]at w;simp at w
  ·have:=zgP (ux f2! i) z;lia
 ·exact b)
noncomputable def scl(k:Int)(v:h!):h!:=v.map λx=>x*k
section
variable {k:Int}(hk:0<k)
include hk
theorem znJ: x*k=y*k ↔ x=y:=⟨λh=>Int.eq_of_mul_eq_mul_right (by lia) h,λh=>by rw[h]⟩
theorem zoY: x*k∈scl k v ↔ x∈v:=by
 unfold scl;rw[_q];exact⟨λ⟨y,hy,e⟩=>by rw[<- (znJ hk).mp e];exact hy,λh=>a3! x h rfl⟩
theorem zoT(v:h!):t! (scl k v)=z!:=by simp[scl]
end
noncomputable def zO(r:Rl)(ls:fr!):em! Tb:=ls.dropLast.map (ky r)
theorem Run.ne(R:gk! v):a4! ls:=by cases R<;>simp
theorem Run.tabs_cons(h:gk! dI!):zO r (v::ls)=fX!::jT!:=by
 obtain⟨a,t,rfl⟩:=List.exists_cons_of_ne_nil e4!;rfl
noncomputable def z0f(n:Nat)(ts:em! Tb):Tb:=ts.foldl jH bB!
theorem Run.fairP(h:aQ!)(R:gk! v):∀P,e8! P->z0R P->z0R ((jT!).foldl jH P):=by induction R with
 | done e=>simpa[zO] using f | step e R ih=>
  intro P hP f;rw[R.tabs_cons];exact ih (pe! e) _ (zej hP (z1D r h e)) (zii jN! hP (z1D r h e) f (zgK r h e))
theorem Run.fair(h:aQ!)(R:gk! v):z0R hN!:=R.fairP h _ (z4q n) (C! (zoA jN!))
theorem Run.prod(h:aQ!)(R:gk! v)(I:PI n B P v x)(hx:∀y∈x,y<=B):∃z,ls.getLast? = b! z/\ended z=d!/\Lot n z/\ui z=b5!/\PI n B ((jT!).foldl jH P) z x:=by induction R generalizing P with
 | done e=>exact⟨_,by rfl,e,h,rfl,by exact I⟩ | step e R ih=>
  obtain⟨z,h1,h2,h3,h4,h5⟩:=ih (pe! e) (I.step r hx h e);refine⟨z,?_,h2,h3,by rw[h4,zgG r h e],?_⟩;·rw[List.getLast?_cons,h1];rfl
  ·rw[R.tabs_cons];exact h5
theorem Run.whole(h:aQ!)(R:gk! v)(hx:∀y∈v,y<=B):∃z,ls.getLast? = b! z/\ended z=d!/\Lot n z/\ui z=b5!/\PI n B hN! z v:=R.prod h (PI.start h hx) hx
open Dd (lexN)
theorem zfm:∀{a b:List Int},a≠b->gU! b a=! gU! a b
 | [],[],h=>fn! h | [],_::_,_=>rfl | _::_,[],_=>rfl | x::a,y::b,h=>by
  by_cases e:x=y
  ·subst e;simp only[lexN,_v];exact zfm (λz=>h (by rw[z]))
  ·have e':¬ y=x:=λz=>e jH!;simp only[lexN,e,e',_aV];by_cases l:x<y;·simp[l];lia
   ·simp[l];lia
theorem zht:∀{a b c:List Int},gU! a b=d!->gU! b c=d!->gU! a c=d!
 | [],[],_,h,_=>by simp[lexN]at h | [],_::_,[],_,h=>by simp[lexN]at h | [],_::_,_::_,_,_=>rfl | _::_,[],_,h,_=>by simp[lexN]at h | _::_,_::_,[],_,h=>by simp[lexN]at h | x::a,y::b,z::c,h1,h2=>by
  simp only[lexN]at h1 h2 ⊢;by_cases e1:x=y
  ·subst e1;by_cases e2:x=z
   ·subst e2;simp only[_v]at h1 h2 ⊢;exact zht h1 h2
   ·simp only[e2,_aV]at h2 ⊢;exact h2
  ·simp only[e1,_aV,_aA]at h1;by_cases e2:y=z
   ·subst e2;simp only[e1,_aV,_aA];exact h1
   ·simp only[e2,_aV,_aA]at h2;simp only[(show ¬ x=z from by lia),_aV,_aA];lia
abbrev Up(L:fr!):g!:=L.Pairwise λa b=>gU! a b=d!
end Pm
namespace Pg
open L2 Dd Pm
noncomputable abbrev iL(ns:h!):x!:=is!
theorem zsb{i:Int} (h:eF!<2 ^ m)(hm:m<=bK!):eF!<BIG:=_j h (_B (by decide) (by lia))
theorem z0B(s:Sto)(ha:or!<2 ^ m)(hm:m<=bK!)(hb:b.natAbs<2 ^ k)(hk:k<=bK!):yB gd! fe! s=v! (a*b):=by rw[zgN,bS! (zsb ha hm) (zsb hb hk)]
theorem z6P(s:Sto)(hb:0<b):zeK gd! fe! s=v! (a % b):=by rw[zpG,_g hb]
theorem zer(s:Sto)(h:∀x∈xs,x=eQ!):zgq [bx!] s=cA!:=by simp[zgq,zY,(show oq! xs=b! (n7! (bk! d!)) from by
  conv=>lhs;rw[(show xs=(n7! (bk! d!)).map D.bl from by
  rw[_ag];conv=>lhs;rw[<- List.map_id xs]
  exact _aq (ac! (h x hx)))]
  exact zbk _)]
theorem z9c(s:Sto)(h:a4! ns):vY [n! (iL ns)] s=v! nN!:=by cases ns with
 | nil=>exact fn! h | cons n ns=>simp only[vY,zY,_O,uF]
theorem zm0(s:Sto)(h:a4! ns):z6t [n! (iL ns)] s=v! (minL ns):=by cases ns with
 | nil=>exact fn! h | cons n ns=>simp only[z6t,zY,_O,uF]
theorem zpL(s:Sto)(h:a4! ns):vY [bN! ns] s=v! nN!:=by cases ns with
 | nil=>exact fn! h | cons n ns=>simp only[vY,zY,_O,uF]
theorem zkz(h:a4! ns)(e:G! s l (iL ns)):vY [db!] s=v! nN!:=by cases ns with
 | nil=>exact fn! h | cons n ns=>simp only[vY,zY,e,_O,uF]
theorem zj8(xs:x!)(s:Sto):gIs c2! af! s=cA!:=V!
theorem zug(x:Str)(s:Sto):gIs go! a1! s=cA!:=V!
theorem z4k(xs:x!)(s:Sto)(h:2<=w!/\w!<=4):xa [af!] s=cA!:=by simp[xa,Mof,jl,zv,zj8,yC,zY,(show j! 2<=w! from by lia),(show j! w!<=4 from by lia)]
theorem z0U(ns:h!) (s:Sto) (h:dv! e1!):zN [n! (iL ns),c! e1!] s=cA!:=by
 simp[zN,Mof,qO,zv,zj8,yC,zY];rw[zbw (λ_=>D.bl d!) (iL ns) [] (by intro x hx;obtain⟨n,_,rfl⟩:=gB!;rfl) (by simp[cap];lia)];simp only[Rb,_aw];rw[zer s (by intro x hx;obtain⟨_,_,rfl⟩:=gB!;rfl)];rfl
theorem ud{α:bD!} (g f:α->D):∀(l:List α)(acc:List D),(∀a∈l,body (g a) s=k! (b! (f a)))->im!+hT!<=cap->qp [] all dM! kA! acc s=k! (acc++m4!)
 | [],acc,_,_=>by simp[qp,okG] | x::xs,acc,hb,hl=>by
  rw[_u,qp];simp[okG,hb x (by simp),(show im!<cap from by simp at hl;lia),(ud (all:=all) g f xs (acc++[f x]) (cN! (hb y (by simp[hy]))) (by simp at hl ⊢;lia))]
theorem zma(ns:h!)(s:Sto):znc [bN! ns] s=v! ns.sum:=by simp only[znc,zY,_O,uF]
theorem zw:∀(r v:List Int),oC! (λa b=>a*b) r v=kv! r v (λp=>p.1*p.2)
 | [],_=>by rfl | _::_,[]=>by rfl | a::r,b::v=>by simp[zw r v]
theorem za1:∀(r v:List Int),z4Q (iL r) b6!=kv! r v (i8! (cU! p.1 p.2))
 | [],_=>by rfl | _::_,[]=>by rfl | a::r,b::v=>by simp[z4Q,(za1 r v)]
theorem zcy(i j:Nat)(s:Sto):wB [U!,c! j] s=v! (sg i j):=by
 simp[wB,Mof,z9b,zv,z6P s (show 0<2 by decide)];unfold sg;by_cases h:(i+j) % 2=0;·simp[h,(show (j! i+j) % 2=0 from by lia)]
 ·simp[h,(show ¬ (j! i+j) % 2=0 from by lia)]
theorem z4s(s:Sto)(hr:∀x∈r,de! m)(hv:∀x∈v,de! k)(hm:m<=bK!)(hk:k<=bK!)(hl:aK!<=4):xY [n! (iL r),n! b6!] s=v! (ei! r):=by
 simp[xY,Mof,z6q,zv,z9e,(za1 r v),-List.map_map];rw[ud _ (pK! (aP! (p.1*p.2))) _ [] (by
  intro p hp;simp[z0B s (hr p.1 (mo!).1) hm (hv p.2 (mo!).2) hk]) (by simp[cap];lia)];simp only[Rb,_aw];rw[(show kv! r v (pK! (aP! (p.1*p.2)))=iL (kv! r v (λp=>p.1*p.2)) from by simp[_N]),zma];simp[dot,zw]
noncomputable abbrev rD(r:h!):D:=n! (iL r)
noncomputable abbrev tD(T:Tb):D:=n! nL!
theorem zaM(s:Sto)(h:Bd m T)(hv:∀x∈v,de! k)(hm:m<=bK!)(hk:k<=bK!)(hl:∀r∈T,aK!<=4)(hT:bt!<=4):xO [tD T,n! b6!] s=a7! (iL (mv T v)):=by
 simp only[xO,Mof,z2m,zv,tD];simp[-List.map_map];rw[ud rD (λr=>aP! (ei! r)) T [] (by
  intro r hr;simp[(z4s s (h r hr) hv hm hk (hl r hr))]) (by simp[cap];lia)];simp[zV,zY,mv,_N]
theorem z98{j:Nat} (s:Sto)(h:G! xs j d):c9! af! j s=k! d:=by
 have hj := cV! h;simp only[dIx,zY,atI,(show k5! j=b! j from by
  unfold ixN;rw[_g (by lia),_g (by lia)];rfl),_O,h]
theorem zen(hn:dv! n)(h:ar ρ s=I! [c! n]):jV ar ρ s=I! (yr n,[]):=by
 rw[zeS,h,Rb];simp only;rw[_g (by lia),_W]
theorem zwA{k:Nat} (s:Sto) (hk:∀r∈T,k<aK!) (hT:bt!<=4):zt cW! (F! 1) (yh 1) zU (gC! 1) [cm! T,bh!] s=k! (bN! (oD! (λr=>cT! k))):=by
 simp[-List.map_map];rw[ud rD (λr=>aP! (cT! k)) T [] (by
  intro r cM;simp[(z98 (xs:=iL r) (j:=k) (d:=c! (cT! k)) s (by simp[_b (hk r cM),List.getD]))]) (by simp[cap];lia)];simp[_N]
theorem zvW(s:Sto) (hr:∀r∈T,bt!<=aK!) (hT:bt!<=4): zt (jV (a0! ch!)) (F! 0) (yh 1) zU (dr! cW! (F! 1) 1 (gC! 1)) [cm! T] s=bw! (eP! (yi T)):=by
 rw[ue,uH,zen (n:=T.length) (s1:=s) (by lia) (by simp[yC,zY]),Rb];simp only[yr];rw[ud (fL! k) (λk:Nat=>rD (oD! (λr=>cT! k))) (iM! bt!) [] (by
  intro k hk;rw[vX,Rb,z4l,Rb,yj,zq,show (wP (F! 0) [cm! T]).set 1 bh!=[cm! T,bh!] from rfl,zwA s (λr cM=>_j (by simpa using hk) (hr r cM)) hT];rfl) (by simp[cap];lia)];simp[yi,_N]
theorem ztG(s:Sto)(x:x!)(h:zt (jV (a0! ch!)) (F! 0) (yh 1) zU (dr! cW! (F! 1) 1 (gC! 1)) cX! s=bw! x):yZ [d] s=a7! x:=by
 have st:zv [eI!] [d]=cX!:=rfl;simp only[yZ,Mof,z2X,st,_d,_k,_v,z1R,yf,yj,zq,h,Rb,zL,zV,zY]
theorem z4y(s:Sto)(hr:∀r∈T,bt!<=aK!)(hT:bt!<=4):yZ [tD T] s=he! (yi T):=ztG s _ (zvW s hr hT)
theorem zgh(s:Sto) (hn:be!) (h:hf!):uv [tD T] s=cA!:=by
 have hl:=h.len;refine (λd h1 h2=>by
  have st:zv c5! [d]=cX!:=rfl;simp only[uv,Mof,z7j,st,_v];rw[zm (ρ':=cX!) (s':=s) (by simp[h1])];simp only[z5e,yf,yj,zq,h2,Rb,zL];rw[zer s (by intro x hx;obtain⟨_,_,rfl⟩:=gB!;rfl)];rfl:∀d:D,xa [d] s=cA!->zt cW! (F! 0) (yh 1) zU (es! zN r! ch!) cX! s=bw! (oD! (λ_=>D.bl d!))->uv [d] s=cA!) _ (z4k nL! s (by simp[hl];lia)) ?_;rw[ue,uH];simp only[jZ,ym,_c,Rb];rw[ud rD (λ_=>D.bl d!) T [] (by
  intro r hr;have hw:=z0U r s (by have:=jM! r hr;lia);rw[jM! r hr,<- hl]at hw;simp[yC,zY,hw]) (by simp[cap];lia)];rfl
theorem z19(s:Sto)(hn:be!)(h:hf!):yN [tD T] s=fs!:=(λd h1=>by simp[yN,Mof,z32,zv,h1]:∀d:D,uv [d] s=cA!->yN [d] s=fs!) _ (zgh s hn h)
theorem zuS{d e c:D}{cs:fr!}(s:Sto)(f:h!->D)(hc:yZ [e] s=a7! (cs.map rD))(h:∀r∈cs,xO [d,rD r] s=k! (f r))(hl:cs.length<=4): zt (zQ (jj! yZ)) (F! 0) (yh 1) zU (cM! xO) hB! s=bw! (cs.map f):=by
 rw[ue,uH];simp only[jZ,yj,zq,zL,ym,_c,_e,Rb,hc];rw[ud rD f cs [] (by
  intro c hc;simp only[vX,Rb,z4l,_v,kz,kF,_c,_aG,_L,_F,_e,h c hc]) (by simp[cap];lia),Rb,_aw]
theorem zu5(s:Sto) (h1:yN [d] s=fs!) (h2:yN [e] s=fs!) (h3:yC [d] s=v! n) (h4:yC [e] s=v! n) (h5:zt (zQ (jj! yZ)) (F! 0) (yh 1) zU (cM! xO) hB! s=bw! x) (h6:yZ [n! x] s=k! f):vz [d,e] s=k! f:=by
 have st:zv m5! [d,e]=hB!:=rfl;simp only[vz,Mof,z3t,st,_d,_k,_v];rw[zm (ρ':=hB!) (s':=s) (by simp[h1]),zm (ρ':=hB!) (s':=s) (by simp[h2]),zm (ρ':=hB!) (s':=s) (by simp[h3,h4])];simp only[z2n,yf,yj,zq,h5,Rb,zL];rw[(show zV [X! x] s=a7! x from by rfl),Rb,Rb,h6,Rb]
theorem zbh(s:Sto)(hn:be!)(ha:id!)(hb:e8! B)(hA:Bd m A)(hB:Bd k B)(hm:m<=bK!)(hk:k<=bK!):vz [tD A,tD B] s=he! (jH A B):=by
 have w2:=z19 s hn hb;have c1:=z4y s (dh! (by rw[hb.row r hr,hb.len];lia)) (by rw[hb.len];lia);have lc:t! (yi B)=n:=by simp[yi,hb.len]
 have g2:yC [tD B] s=v! n:=by simp[yC,zY,hb.len]
 refine zu5 s (z19 s hn ha) w2 (by simp[yC,zY,ha.len]) g2 (zuS (c:=aA!) s (λr=>rD (mv A r)) c1 (dh! (zaM s hA (zmY hB r hr) hm hk (ha.le hn) (by rw[ha.len];lia))) (by lia)) ?_;rw[(show (yi B).map (λr=>rD (mv A r))=eP! ((yi B).map (mv A)) from by rw[_ag];rfl)];exact (z4y (T:=(yi B).map (mv A)) s (dh! (by
  obtain⟨c,_,rfl⟩:=jX!;simp[mv,ha.len,lc])) (by simp[lc];lia))
theorem z2p(xs:x!)(i:Nat)(s:Sto):dSl af! a! (b! (j! i)) s=a7! (nj! i):=by simp only[dSl,(show Dd.cutD xs a! h7!=nj! i from by
  unfold Dd.cutD;rw[HT.zeq,HT.zhK];simp[List.take_eq_take_min])]
theorem z2x(xs:x!)(i:Nat)(s:Sto):dSl af! (b! (j! i)) a! s=a7! (lB! i):=by simp only[dSl,(show Dd.cutD xs h7! a!=lB! i from by
  unfold Dd.cutD;rw[HT.zeq,HT.zhK];by_cases h:i<=w!
  ·rw[Nat.min_eq_left h];exact List.take_of_length_le (by simp)
  ·rw[Nat.min_eq_right (by lia)];simp[List.drop_of_length_le (show w!<=i by lia)])]
theorem zlK{f g h:FE} {j:Nat}(hf:ay!=k! af!)(hg:g ρ s=v! j)(hl:dv! w!): eOp xf (gh! f g) (fg! f (bf! g ah!)) ρ s=a7! (nj! j++lB! (j+1)):=by
 have e2:=z2x xs (j+1) s;rw[show ((j+1:Nat))=j! j+1 from rfl]at e2;simp only[yO,zaK,jo,z1i,qE,hf,hg,Rb,z91,(z2p xs j s),e2,z3a,_g (show t! (nj! j)+t! (lB! (j+1))<=cap from _G (_bC (List.length_take_le' ..) (by rw[_ay];exact Nat.sub_le ..)) (_G (_bC hl hl) (by decide)))]
theorem zbQ(i j:Nat) (s:Sto) (hT:bt!<=4) (hr:∀r∈T,aK!<=4):xT [tD T,U!,c! j] s=he! (fl! i j):=by
 have h0:=zlK (f:=u!) (g:=r!) (h:=u!) (ρ:=fp! (tD T) U! aO!) (s:=s) (xs:=nL!) (j:=i) (by rfl) (by rfl) (by simp;lia);have:=(λd K h hK oH=>by
  have st:zv [jK!,"at_line",qZ!,"kept"] [d,U!,c! j]=fp! d U! aO!:=rfl;simp only[xT,Mof,z9w,st,_d,_k,_v];rw[zm (ρ':=[i!,cq!,aO!,b! (n! (pL! rD))]) (s':=s) (by rw[z6V,zR,h];rfl)];have c:zt kO! (F! 2) (yh 1) zU (bf! (gh! r! u!) (fg! r! (fQ! 0))) [i!,cq!,aO!,b! (n! (pL! rD))] s=bw! (pL! (λr=>rD (q7! j++oi! (j+1)))):=by
   rw[ue,uH];simp only[jZ,ym,_c,_e,Rb];rw[ud rD (λr=>rD (q7! j++oi! (j+1))) K [] (by
    intro r cM;simp only[vX,Rb,z4l,kz,kF,jt,_c,_e,_aG,_L,_F];rw[(zlK (f:=r!) (g:=u!) (h:=u!) (ρ:=[aO!,bv! r]) (s:=s) (xs:=iL r) (j:=j) (by rfl) (by rfl) (by have:=oH r cM;simp;lia)),Rb];simp[_aU]) (by simp[cap];lia),Rb,_aw]
  rw[z7b,yf,yj,zq,c,Rb,zL,Rb,Rb,(show zV [X! (pL! (λr=>rD (q7! j++oi! (j+1))))] s=a7! (pL! (λr=>rD (q7! j++oi! (j+1)))) from by rfl),Rb]:∀(d:D) (K:Tb),(bf! (gh! u! r!) (fg! u! (fQ! 1))) (fp! d U! aO!) s=a7! (pL! rD)->K.length<=4->(∀r∈K,aK!<=4)-> xT [d,U!,c! j] s=a7! (pL! (λr=>rD (q7! j++oi! (j+1))))) (tD T) (T.take i++T.drop (i+1)) (by rw[h0];simp[_co,_aU]) (by simp;lia) (λr cM=>hr r ((dh! (m1! hr _T _aF)) r cM));rw[this];simp[z2F,_N]
theorem zdy(r:h!):z2K 0 (iL r)=aT! aK! (λ(j:Nat)=>gT! (cU! (j! j) (cT! j))):=by
 apply _di;intro k;by_cases h:k<aK!
 ·have h1:k<t! (z2K 0 (iL r)):=by rw[jD];simpa using h
  obtain⟨x,e1,e2⟩:=zau (_b h1);rw[_b h1,e2];simp only[_D,_b h,_ai,_y]at e1;rw[<- e1];simp[h,List.getD]
 ·rw[_M (by rw[jD];simp;lia),_M (by simp;lia)]
theorem jx{j:Nat}(s:Sto)(h:j<aK!):c9! (rD r) (j! j) s=v! (cT! j):=z98 s (by simp[_b h,List.getD])
theorem zl6(i j:Nat):aZ! (sg i j)<2 ^ 1:=by rw[zhj];decide
theorem z6I(hm:m<=400):∀(k:Nat) (T:Tb) (s:Sto),bt!<=k->1<=bt!->bt!<=4->(∀r∈T,aK!=bt!)->Bd m T->yJ k [tD T] s=v! (det k T)
 | 0,T,s,h0,h1,_,_,_=>by lia | k+1,T,s,h0,h1,h4,hr,hb=>by
  have ih:=λU oI oJ oK oM oN=>z6I hm k U s oI oJ oK oM oN;have lm:jZ! 0∈T:=by rw[List.getD,_b (by lia)];exact _J _
  have l0:=hr _ lm;have b0:=hb _ lm;have gl:yC [tD T] s=v! bt!:=by simp[yC,zY]
  have i0:c9! (tD T) 0 s=k! (rD (jZ! 0)):=by exact (z98 (xs:=nL!) (j:=0) (d:=rD (jZ! 0)) s (by simp[_b (show 0<bt! by lia),List.getD]))
  have st:∀d:D,zv [jK!] [d]=cX!:=bk! rfl;by_cases he:bt!=1
  ·have key:∀(d e:D) (x:Int),yC [d] s=v! 1->c9! d 0 s=k! e->c9! e 0 s=v! x->yJ (k+1) [d] s=v! x:=λd e x a1 a2 a3=>by
    rw[yJ];simp only[Mof,z1f,st,_d,_k,_v];rw[vV (d:=c! x) (s':=s) (by simp[a1,a2,a3])]
   rw[key (tD T) _ _ (by rw[gl,he];rfl) i0 (jx (j:=0) s (by lia)),det,_g he]
  ·have en:=zdy (jZ! 0);rw[l0]at en;have wl:∀j,t! (fl! 0 j)=bt!-1:=λj=>z67 (by lia);have wr:∀j,j<bt!->∀r∈fl! 0 j,aK!=t! (fl! 0 j):=λj hj r cM=>by
    rw[wl];obtain⟨q,hq,rfl⟩:=_q.mp cM;have:=hr q (m1! hq _T _aF);simp;lia
   have fI:∀j∈iM! bt!,wB (cU! 0 j) s=v! (sg 0 j)/\xT [tD T,cu!,c! j] s=he! (fl! 0 j)/\yJ k [tD (fl! 0 j)] s=v! (det k (fl! 0 j))/\ yB (c! (sg 0 j)) (c! (bg! (jZ! 0) j)) s=v! (sg 0 j*bg! (jZ! 0) j)/\yB (c! (sg 0 j*bg! (jZ! 0) j)) (c! (det k (fl! 0 j))) s=v! (sg 0 j*bg! (jZ! 0) j*det k (fl! 0 j)):=λj hj=>by
    have s1 := zcy 0 j s;have s3:=ih (fl! 0 j) (by rw[wl];lia) (by rw[wl];lia) (by rw[wl];lia) (wr j (by simpa using hj)) (z4m hb 0 j);have b1:=z6C b0 j;have b2:=zeB k (fl! 0 j) (z4m hb 0 j) (by rw[wl];lia) (by rw[wl];lia);have m1:=z0B s (zl6 0 j) (by decide) b1 (by lia);have m2:=z0B s (zhg (zl6 0 j) b1) (by lia) (_j b2 (_B (by decide) (by
     rw[wl];have:(bt!-1)*m<=3*m:=_aE _ (by lia);lia))) am!;exact⟨s1,(zbQ 0 j s h4 (λr cM=>by rw[hr r cM];exact h4)),s3,m1,m2⟩
   rw[det,_o he];refine (λd e n a1 a2 a3 x a4=>by
    rw[yJ];simp only[Mof,z1f,st,_d,_k,_v];rw[zm (ρ':=cX!) (s':=s) (by simp[a1,a2])];rw[z39,yf,yj,zq,a3,Rb,zL,Rb,Rb,a4,Rb]:∀(d e:D) (n:Int),yC [d] s=v! n->n≠1->(zt (z2M (a0! (hG! 0))) (dE! 0) (yS 1 2) zU (gF! (gF! (es! wB A! r!) P!) (aM! (yJ k) (ze xT (zb u! (ip! A! 1)))))) cX! s=k! e-> ∀x,znc [e] s=v! x->yJ (k+1) [d] s=v! x) (tD T) (bN! (aT! bt! (λj=>sg 0 j*bg! (jZ! 0) j*det k (fl! 0 j)))) bt! gl (by lia) ?_ _ (zma _ s);rw[ue,uH];simp only[zov,zq,zL,yO,ym,qE,_c,Rb,i0,z9e];rw[en];rw[ud (λj:Nat=>gT! (cU! j (bg! (jZ! 0) j))) (λj:Nat=>aP! (sg 0 j*bg! (jZ! 0) j*det k (fl! 0 j))) (iM! bt!) [] (by
    intro j hj;obtain⟨s1,s2,s3,m1,m2⟩:=fI j hj;simp only[z9H,Rb,z4l,_v,kz,kF,jt,_c,_e,_aG,_L,_F,yO,yj,zq,zL,qE,ym,s1,s2,s3,m1,m2]) (by simp[cap];lia)];simp[_N]
theorem zf0(s:Sto)(hn:n=1\/be!)(h:hf!)(hb:Bd m T)(hm:m<=400):xH [tD T] s=v! (eV! T):=by
 have hl:=h.len;exact z6I hm 4 T s (by lia) (by lia) (by lia) (dh! (by rw[jM! r hr,hl])) hb
theorem zcm(s:Sto) (hn:be!) (h:hf!) (hb:Bd m T) (hm:m<=400):vB [tD T] s=v! (eV! T):=by
 have w1:=z19 s hn h;exact (λd x a1 a2=>by
  have st:zv [eI!] [d]=cX!:=rfl;simp only[vB,Mof,z30,st,_d,_k,_v];rw[zm (ρ':=cX!) (s':=s) (by simp[a1])];simp only[kw,yf,yj,zq,zL,ym,_c,Rb,a2]:∀(d:D) (x:Int),yN [d] s=fs!->xH [d] s=v! x->vB [d] s=v! x) _ _ w1 (zf0 s (T! hn) h hb hm)
theorem z5Z(h:hf!)(hi:i<n)(hj:j<n):Tab (n-1) (fl! i j):=by
 refine⟨by rw[z67 (by rw[h.len];exact hi),h.len],dh! ?_⟩;obtain⟨q,hq,rfl⟩:=jX!;have:=jM! q (m1! hq _T _aF);exact aJ! (zgy (this ▸ hj)) (by rw[this])
theorem tbE(s:Sto)(hn:be!)(h:hf!)(hb:Bd m T)(hm:m<=400)(ht:t.natAbs<2 ^ 1)(hi:i<n)(hj:j<n): (gF! (fS! 0 (gz! wB 1 3)) (aM! xH (ze xT (fB! P! 3 1)))) [e! t,e! (j! i),cm! T,e! (j! j)] s=v! (t*sg i j*eV! (fl! j i)):=by
 have s1:=zcy i j s;have s2:=zbQ j i s (by rw[h.len];lia) (h.le hn);have s3:=zf0 s (by lia) (z5Z h hj hi) (z4m hb j i) hm;have b2:=zeB 4 (fl! j i) (z4m hb j i) (by rw[(z5Z h hj hi).len];lia) (by rw[(z5Z h hj hi).len];lia);simp only[yO,yj,zq,zL,ym,_c,_e,Rb,s1,s2,s3,(z0B s ht (by decide) (zl6 i j) (by decide)),(z0B s (zhg ht (zl6 i j)) (by decide) (_j b2 (_B (by decide) (by
  rw[(z5Z h hj hi).len];have:(n-1)*m<=3*m:=_aE _ (by lia);lia))) am!)]
theorem tbI(s:Sto) (hn:be!) (h:hf!) (hb:Bd m T) (hm:m<=400) (ht:t.natAbs<2 ^ 1) (hi:i<n): zt cW! (fv! 1 3 2) (yh 3) zU (gF! (fS! 0 (gz! wB 1 3)) (aM! xH (ze xT (fB! P! 3 1)))) [aL! (yr n),e! t,cm! T,e! (j! i)] s= k! (bN! (aT! n (λj=>t*sg i j*eV! (fl! j i)))):=by
 rw[ue,uH];simp only[jZ,ym,_c,Rb,yr];rw[ud (fL! k) (λj:Nat=>aP! (t*sg i j*eV! (fl! j i))) i3! [] (by
  intro j hj;simp only[vX,Rb,z4l,_v,kz,kF,jt,_c,_e,_aG,_L,_F];rw[(tbE s hn h hb hm ht hi (by simpa using hj)),Rb]) (by simp[cap];lia)];simp[_N]
theorem tbO(s:Sto) (hn:be!) (h:hf!) (hb:Bd m T) (hm:m<=400) (ht:jV! 4 T<2 ^ 1): zt (zQ P!) (fv! 2 1 0) (yh 3) zU (dr! cW! (fv! 1 3 2) 3 (gF! (fS! 0 (gz! wB 1 3)) (aM! xH (ze xT (fB! P! 3 1))))) [cm! T,e! (eV! T),aL! (yr n)] s=bw! (eP! (gV! T)):=by
 rw[ue,uH];simp only[jZ,ym,_c,_e,Rb];rw[show yr n=aT! n (fL! k) from rfl,ud (fL! k) (λi:Nat=>rD (aT! n (λj=>eV! T*sg i j*eV! (fl! j i)))) i3! [] (by
  intro i hi;have q:=tbI s hn h hb hm ht (by simpa using hi);rw[show yr n=aT! n (fL! k) from rfl]at q;simp only[vX,Rb,z4l,_v,kz,kF,jt,_c,_e,_aG,_L,_F];rw[yj,zq,q,Rb,zL,Rb,Rb,(λx=>by rfl:∀x:List D,zV [X! x] s=a7! x),Rb]) (by simp[cap];lia),Rb,_aw];simp only[back,h.len,_ag,_N]
theorem z9J(s:Sto) (hn:be!) (h:hf!) (hb:Bd m T) (hm:m<=400) (hf:z0R T):qU [tD T] s=he! (gV! T):=by
 have w1:=zcm s hn h hb hm;have c:=tbO s hn h hb hm (by rcases hf with e | e<;>rw[e]<;>decide);exact (λd t x a1 a2 a3 a4=>by
  have st:zv [eI!,oy!,lS!] [d]=dE! d:=rfl;simp only[qU,Mof,z25,st,_d,_k,_v];rw[zm (ρ':=[i!,e! t,a!]) (s':=s) (by simp[a1]),zm (ρ':=[i!,e! t,a!]) (s':=s) (by rcases a2 with rfl | rfl<;>rfl),zm (ρ':=[i!,e! t,aL! (yr n)]) (by
   simp only[jp,zR,zpO,zq,zL,yj,ym,_c,Rb,a3,_g (show j! 0<=n/\j! n<=fF! from by lia),_W];rfl)];rw[jm,yf,yj,zq,a4,Rb,zL,Rb,Rb,(show zV [X! x] s=a7! x from by rfl),Rb]:∀(d:D) (t:Int) (x:List D),vB [d] s=v! t->(t=1\/t=-1)->yC [d] s=v! n->zt (zQ P!) (fv! 2 1 0) (yh 3) zU (dr! cW! (fv! 1 3 2) 3 (gF! (fS! 0 (gz! wB 1 3)) (aM! xH (ze xT (fB! P! 3 1))))) [i!,e! t,aL! (yr n)] s=bw! x->qU [d] s=a7! x) _ _ _ w1 hf (by simp[yC,zY,h.len]) c
theorem z38{α:bD!} (g f:α->D)(p:eB! α):∀(l:List α)(acc:List D),(∀a∈l,body (g a) s=k! (aF! (p a) (b! (f a)) a!))->im!+hT!<=cap->qp [] all dM! kA! acc s=k! (acc++(l.filter p).map f)
 | [],acc,_,_=>by simp[qp,okG] | x::xs,acc,hb,hl=>by
  rw[_u,qp,_g (by intro p hp;cases hp),hb x (by simp)];cases hp:p x with
  | true=> simp[(show im!<cap from by simp at hl;lia),(z38 (all:=all) g f p xs (acc++[f x]) (cN! (hb y (by simp[hy]))) (by simp at hl ⊢;lia)),hp] | false=> simp[(z38 (all:=all) g f p xs acc (cN! (hb y (by simp[hy]))) (by simp at hl ⊢;lia)),hp]
theorem xI{α:bD!} (g f:α->D)(p:eB! α)(ev:α->Ev)(l:et!) (hi:fi ρ s=k! (kA!,[]))(hg:∀a∈l,fg (g a) jw! s=k! (ev a))(ht:∀a∈l,ft (ev a) s=k! (p a))(he:∀a∈l,p a=d!->fe (ev a) s=k! (f a))(hl:hT!<=cap): zt fi mp fg ft fe ρ s=bw! ((l.filter p).map f):=by
 rw[ue,uH,hi,Rb,z38 g f p l [] (by
  intro a ha;simp only[hg a ha,ht a ha,Rb];cases hp:p a with
  | true=>simp[he a ha hp] | false=>rfl) (by simpa using hl)];rfl
theorem comp_map{α:bD!} (g f:α->D)(ev:α->Ev)(l:et!) (hi:fi ρ s=k! (kA!,[]))(hg:∀a∈l,fg (g a) jw! s=k! (ev a))(he:∀a∈l,fe (ev a) s=k! (f a))(hl:hT!<=cap): zt fi mp fg zU fe ρ s=bw! m4!:=by
 have:=xI (ft:=zU) g f (bk! d!) ev l hi hg (λa _=>rfl) (λa ha _=>he a ha) hl;rw[(_bO.mpr (by simp))]at this;exact this
theorem qV(h:ay!=k! af!):zQ f ρ s=k! (xs,[]):=by simp[h]
theorem jy(h:ay!=k! bx!):zQ f ρ s=k! (xs,[]):=by simp[h]
structure LotB(n m:Nat)(v:h!):g! extends aQ! where bd:∀x∈v,x<2 ^ m
theorem LotB.abs{n m:Nat}{v:h!}(h:fy!):∀x∈v,de! m:=ac! (by
 have:j! iX!<aa! (2 ^ m):=by rw[(_bD (h.nn x hx))];exact (h.bd x hx)
 lia)
theorem LotB.toN(h:fy!):∀x∈v,ou!<2 ^ m:=ac! (by
 have h1:=h.abs x hx;lia)
theorem _root_.Pm.Lot.le4(h:aQ!):z!<=4/\2<=z!:=by have:=h.len;have:=h.sz;lia
theorem zeP(h:aQ!)(s:Sto):xl [O!] s=cA!:=by
 have l4:=h.le4;have h1:=z4k b6! s (by simp;lia);have h2:=z0U v s (by lia);have g1:=z9c s e4!;have g2:=zm0 s e4!;have mx:0<jl!:=by obtain⟨x,hx,h0⟩:=h.pos;have:=op! x hx;lia
 exact (λd a1 a2 a3 a4 a5=>by simp[xl,Mof,z6z,zv,a1,a2,a3,a4,a5,(h.nn _ (rS! e4!)),mx]:∀d:D,xa [d] s=cA!->yC [d] s=v! z!->zN [d,c! z!] s=cA!->vY [d] s=v! jl!->z6t [d] s=v! (minL v)->xl [d] s=cA!) _ h1 (by simp[yC,zY]) h2 g1 g2
theorem kJ(h:aQ!)(s:Sto):yP [O!] s=fs!:=by exact (λd a1=>by simp[yP,Mof,z7w,zv,a1]:∀d:D,xl [d] s=cA!->yP [d] s=fs!) _ (zeP h s)
theorem nzC{mp:fa!}(hf:ay!=k! O!)(hl:z!<=4):zt (zQ f) [a!] (yh 0) (ev! 0 A!) u! ρ s=k! (bN! (nz v)):=by
 rw[xI rT! rT! (λx=>cz! x 0) (λx=>[e! x]) v (qV hf) (λa _=>by rfl) (λa _=>by simp) (λa _ _=>by rfl) (by simp[cap];lia)];rfl
theorem z6h(h:aQ!) (s:Sto):xN [O!] s=cb! nM!:=by exact (λd a1 a2=>by
  have st:zv h5! [d]=cX!:=rfl;simp only[xN,Mof,z4F,st,_d,_k,_v];rw[zm (ρ':=cX!) (s':=s) (by simp[a1])];simp only[z3m,yf,yO,yj,zq,zL,qE,a2,Rb];simp only[yC,zY,Rb,zbK,_z];have:bl! (j! (hy! v)=1)=nM!:=by
   unfold ended;by_cases e:hy! v=1;·simp[e]
   ·have:¬ j! (hy! v)=1:=by lia
    simp[e,this]
  rw[this]:∀d:D,yP [d] s=fs!->zt cW! [a!] (yh 0) (ev! 0 A!) u! cX! s=k! (bN! (nz v))->xN [d] s=cb! nM!) _ (kJ h s) (nzC (mp:=[]) (by rfl) (rf!).1)
theorem zhQ(hb:0<b):cg b (a % b)=cg a b:=by
 have e:=_bv a b;refine _dF (by simp[cg]) (by simp[cg]) ?_ ?_
 ·have h1:cg b (a % b) ∣ b:=_dE ..;have h2:cg b (a % b) ∣ a % b:=_dh ..;refine Int.dvd_coe_gcd ?_ h1;have h3:=Int.dvd_add (_bS h1 (Int.dvd_mul_right b (a / b))) h2;rwa [e]at h3
 ·have h1:cg a b ∣ a:=_dE ..;have h2:cg a b ∣ b:=_dh ..;refine Int.dvd_coe_gcd h2 ?_;have:a % b=a-b*(a / b):=by lia
  rw[this];exact Int.dvd_sub h1 (_bS h2 (Int.dvd_mul_right ..))
theorem zis(h:0<=a):cg a 0=a:=by
 unfold cg;rw[Int.gcd_zero_right];lia
theorem zfh(s:Sto):∀(k:Nat)(a b:Int),0<=a->0<=b->pt!<k-> vk (ev! 1 A!) uA k [e! a,bc!] s=aN! [e! (cg a b),e! 0]
 | 0,a,b,_,_,h=>by lia | k+1,a,b,ha,hb,h=>by
  rw[vk];by_cases e:b=0
  ·subst e;simp[zis ha]
  ·have b0:0<b:=by lia
   have m:=z6P (a:=a) s b0;have h1:=_a8 a (show b≠0 by lia);have h2:=_bm a b0;have ih:=zfh s k b (a % b) hb h1 (by lia);have e1:tOf (dz! dNe 1 A!) [e! a,bc!] s=ky!:=by simp[e]
   have e2:uA [e! a,bc!] s=aN! [bc!,e! (a % b)]:=by simp[m]
   rw[e1,Rb,gD!,e2,Rb];show vk _ _ k _ s=_;rw[ih,zhQ b0]
theorem z6x(ha:0<=a)(hb:0<=b)(s:Sto):vT [gd!,fe!] s=v! (cg a b):=by
 have st:zv m5! [gd!,fe!]=[e! a,bc!]:=rfl;simp only[vT,Mof,z0G,_v];rw[zm (by rw[kD];exact z3s (zfh s (pt!+1) a b ha hb (by lia)) (by simp))];rfl
theorem z6G(s:Sto)(x y:fN!):∀(v:List Int)(a:Int)(all:List D)(z:Option D),0<=a->(∀x∈v,0<=x)->∃z',yT [] all (eO! (yh 2 d ρ s) (z3P ρ' s')) b6! [x,e! a,z] s=aN! [x,e! (o4! a),z']
 | [],a,all,z,_,_=>⟨z,by simp[yT,okG]⟩ | b::v,a,all,z,ha,hv=>by
  have hb:=hv b (by simp);obtain⟨z',ih⟩:=z6G s x y v (cg a b) all bc! (by simp[cg]) λw hw=>hv w (by simp[hw]);refine as! z' ?_;have c2:=z6x ha hb s;simp only[_u,yT];rw[_g (by intro p hp;cases hp)];simp only[iL]at ih;have e2:z3P [x,e! a,bc!] s=aN! [x,e! (cg a b),bc!]:=by simp[c2]
  rw[vX,Rb];simp only[_L,_F];rw[e2,Rb];exact ih
theorem zkJ(h:aQ!) (s:Sto):z61 [O!] s=v! b5!:=by
 have h1:=kJ h s;have key:∀d:D,yP [d] s=fs!->(∀z,zQ u! [i!,e! 0,z] s=k! (b6!,[]))->z61 [d] s=v! b5!:=λd a1 a2=>by
  have st:zv [aj!,in!,hS!] [d]=dE! d:=rfl;simp only[z61,Mof,zc9,st,_v];rw[zm (ρ':=dE! d) (s':=s) (by simp[a1])];rw[zm (ρ':=fw! d cu!) (s':=s) (by rfl)];obtain⟨z',e⟩:=z6G s i! a! v 0 b6! a! (by lia) f2!;rw[zm (by rw[z4n,jP,a2,Rb];exact e)];rfl
 exact key _ h1 λz=>qV (by rfl)
end Pg
namespace Pg
open L2 Dd Pm
def nmR:Rl->Str | .nx=>"next" | .le=>"least" | .al=>jx! | .tu=>gn!
theorem zhd(h1:fo ρ s=k! O!)(h2:fv ρ s=v! k)(hk:k∈v):zmF fo fv ρ s=v! (ra! k:Nat):=by simp only[zpA,h1,h2,Rb,uF,_g hk]
theorem z9n(h:aQ!) (s:Sto):ya [O!] s=a7! [c! (bd!:Nat),rD c3!]:=by
 have l4:=h.le4;have g1:=z9c s e4!;exact (il! (by
  have st:zv [aj!,"at"] [d]=F! d:=rfl;have gm:vY [d] s=v! jl!:=by rw[hd];exact g1
  have i1:zmF u! (a8! vY) (F! d) s=v! bd!:=zhd (by simp[hd]) (by exact gm ..) (kW! e4!);simp only[ya,Mof,um,st,_d,_k,_v];rw[zm (ρ':=[i!,dG!]) (s':=s) (by rw[vJ,zR,i1];rfl)];have e2:=z2x b6! (bd!+1) s;rw[show ((bd!+1:Nat))=j! bd!+1 from rfl]at e2;simp only[vN,yf,z1Q,zq,zL,ym,yO,zaK,jo,z1i,qE,_c,_e,Rb,z91,hd,(z2p b6! bd! s),e2];rw[_g (by decide),Rb,z3a,_g (by simp[cap];omega),Rb,e2,Rb,z3a,_g (by simp[cap];omega),Rb,Rb,Rb,_g (by simp[cap])];simp[others,_aU]):∀d:D,d=O!->ya [d] s=a7! [c! bd!,rD c3!]) _ rfl
theorem z3y(h:nz v≠[]) (hl:z!<=4) (s:Sto):xp [O!] s=v! (lp v:Nat):=by
 exact (il! (by
  have st:zv h5! [d]=cX!:=rfl;have gm:z6t [bN! (nz v)] s=v! (jh! v):=by
   obtain⟨a,t,e⟩:=List.exists_cons_of_ne_nil h;rw[e];simp only[z6t,zY,_O,iL];rw[uF]
  simp only[xp,Mof,z1P,st,z1m,yf];rw[zhd (by simp[hd]) (by rw[yj,zq,(nzC (mp:=[]) (f:=u!) (ρ:=cX!) (s:=s) (by simp[hd]) hl)];exact gm ..) (sd! h).1];rfl):∀d:D,d=O!->xp [d] s=v! (lp v)) _ rfl
noncomputable abbrev nL(l:jY!):x!:=ot! (λi=>aP! (aa! i))
theorem zcd{v:h!} (p:Nat) (hl:z!<=4) (s:Sto):qo [O!,c! (p:Nat)] s=bw! (nL (wX v p)):=by
 exact (il! (by
  have st:zv [aj!,q0!] [d,c! p]=[i!,e! p]:=rfl;simp only[qo,Mof,z8O,st,z6W,yf];rw[xI (λi:Nat=>aP! (aa! i)) (λi:Nat=>aP! (aa! i)) (λi=>cz! i p) (λi=>[fh! p,fh! i]) pY! (by
   rw[zen (n:=v.length) (s1:=s) (by omega) (by simp[hd])];rfl) (λa _=>by rfl) (λa _=>by
   have:bl! (j! a≠eM! p)=cz! a p:=by
    by_cases e:a=p;·simp[e]
    ·have:¬ j! a=eM! p:=by omega
     simp[e,this]
   simp only[vw,yO,ym,_e,_c,Rb,z5x,this]) (λa _ _=>by rfl) (by simp[cap];omega)];rfl):∀d:D,yC [d] s=v! z!->qo [d,c! p] s=bw! (nL (wX v p))) _ (by simp[yC,zY])
noncomputable abbrev z7C(d:Nat×jY!):D:=n! [c! d.1,X! (nL d.2)]
theorem zgI(h:aQ!) (s:Sto):jf [O!] s=k! (z7C (gW! .nx)):=by
 have ne:a4! c3!:=λz=>by
  have:=wL e4!;rw[z]at this;exact h.ne (_aY.mp this.symm)
 have g1:=z9c s ne;exact (λd e he hg=>by
  have st:zv [aj!,q1!,q2!] [d]=dE! d:=rfl;have gm:vY [e] s=v! hv!:=by rw[he];exact g1
  simp only[jf,Mof,z8Y,st,_v];rw[zm (ρ':=[i!,dG!,l!]) (s':=s) (by simp[hg])];simp only[z7F,yf,z1Q,zq,(zhd (by simp[he]) (by exact gm ..) (kW! ne):zmF P! (e5! vY 2) [i!,fh! bd!,l!] s=v! ((c3!).idxOf hv!:Nat)),_e];rfl:hU! (e=rD c3!->ya [d] s=a7! [c! bd!,e]->jf [d] s=k! (z7C (gW! .nx)))) _ _ rfl (z9n h s)
theorem zge(h:aQ!) (he:eD!) (s:Sto):uy [O!] s=k! (z7C (gW! .le)):=by
 have g:=z9n h s;exact (λd e he hg=>by
  have st:zv [aj!,q1!,q2!] [d]=dE! d:=rfl;simp only[uy,Mof,z7v,st,_v];rw[zm (ρ':=[i!,fh! bd!,l!]) (s':=s) (by simp[hg])];simp[he,cap,deal]:hU! (xp [e] s=v! (lp c3!:Nat)->ya [d] s=a7! [c! (bd!:Nat),e]->uy [d] s=k! (z7C (gW! .le)))) _ _ (z3y (kG h he) (by rw[wL e4!];exact (rf!).1) s) g
theorem zkG(h:aQ!) (s:Sto):z0g [O!] s=k! (z7C (gW! .al)):=by
 have ab:=zcd (lp v) (rf!).1 s;exact (λd h1 h2=>by
  have st:zv [aj!,ho!] [d]=F! d:=rfl;simp only[z0g,Mof,zci,st,_v];rw[zm (ρ':=[i!,fh! (lp v)]) (s':=s) (by simp[h1])];simp[h2,cap,deal]:∀d:D,xp [d] s=v! (lp v:Nat)->qo [d,c! (lp v:Nat)] s=bw! (nL (wX v (lp v)))->z0g [d] s=k! (z7C (gW! .al))) _ (z3y rd! (rf!).1 s) ab
theorem zhw(h:aQ!) (s:Sto):jk [O!] s=k! (z7C (gW! .tu)):=by
 have ab:=zcd 0 (rf!).1 s;exact (λd h1 h2=>by
  have st:zv h5! [d]=cX!:=rfl;simp only[jk,Mof,z9j,st,_d,_k,_v];by_cases z:fW!=0;·rw[vV (d:=z7C (gW! .tu)) (s':=s) (by
    rw[z]at h1;rw[(show gW! .tu=(0,[]) from by show (0,ak! fW! 0 [] (wX v 0))=_;rw[_g z])];simp[h1,cap])]
  ·rw[zm (ρ':=cX!) (s':=s) (by
    generalize fW!=y at *;simp[h1,z])];rw[(show gW! .tu=(0,wX v 0) from by show (0,ak! fW! 0 [] (wX v 0))=_;rw[_o z])];simp[h2,cap]:∀d:D,c9! d 0 s=v! fW!->qo [d,cu!] s=bw! (nL (wX v 0))->jk [d] s=k! (z7C (gW! .tu))) _ (jx (j:=0) s (by have:=(rf!).2;omega)) ab
theorem zhr(r:Rl)(s:Sto):vQ [by!] s=cA!:=by simp[vQ,Mof,z8R,zv,zug,(λr=>by cases r<;>decide:∀r,gq! (z3o.lookup (nmR r))=d!)]
theorem z6S(r:Rl)(s:Sto):uG [by!] s=fs!:=by simp[uG,Mof,z54,zv,(zhr r s)]
theorem zbm(r:Rl)(h:aQ!)(s:Sto):yc [by!,O!] s=fs!:=by
 have h1:=z6S r s;exact (λd e a1 a2=>by simp[yc,Mof,qB,zv,a1,a2]:hU! (uG [d] s=fs!->yP [e] s=fs!->yc [d,e] s=fs!)) _ _ h1 (kJ h s)
theorem z7r(r:Rl)(h:aQ!)(he:eD!)(s:Sto):wH [by!,O!] s=fs!:=by
 have h2:=z6h h s;rw[he]at h2;exact (λd e a1 a2=>by simp[wH,Mof,z5c,zv,a1,a2]:hU! (yc [d,e] s=fs!->xN [e] s=c6!->wH [d,e] s=fs!)) _ _ (zbm r h s) h2
def dfR:Rl->Str | .nx=>nb! | .le=>nc! | .al=>nd! | .tu=>ne!
noncomputable def MR:Rl->Mir | .nx=>jf | .le=>uy | .al=>z0g | .tu=>jk
theorem zwi(r:Rl)(h:aQ!)(he:eD!)(s:Sto):MR r [O!] s=k! (z7C mC!):=by cases r with
 | nx=>exact zgI h s | le=>exact zge h he s | al=>exact zkG h s | tu=>exact zhw h s
theorem zsn(r:Rl):z3o.lookup (nmR r)=b! (dfR r):=by cases r<;>decide
theorem zwT(r:Rl):ja! ([(nb!,jf),(nc!,uy),(nd!,z0g),(ne!,jk)]:bU! Mir) (dfR r) (MR r):=by
 cases r;·rfl
 ·rfl
 ·rfl
 ·rfl
theorem zum(i:Nat)(l:jY!)(s:Sto):zb0 q! U! (X! (nL l)) s=fo! (i∈l):=by
 have ev:∀a b:Int,eqV gd! fe!=(a==b):=λ_ _=>V!;have e2:∀l:List Nat,inV U! (ot! (λj=>V.int (j:Nat)))=bl! (i∈l):=by
  intro l;induction l with
  | nil=>rfl | cons a l ih=>
   simp only[inV,_u,List.any_cons]at ih ⊢;rw[ih];by_cases q:i=a;·subst q;simp[ev]
   ·simp[ev,q,(show ¬ j! a=i from by omega)]
 have pi:∀i:Int,zbE U!=cq!:=bk! V!;simp only[zb0,pi,zY,_O,(show ∀l:List Nat,z2v (nL l)=b! (ot! (λj=>V.int (j:Nat))) from by
  intro l;induction l with
  | nil=>rfl | cons a l ih=>simp[z2v,pi,ih]),e2];rfl
theorem z2a(x:x!)(s:Sto):zV [X! x] s=a7! x:=by rfl
theorem z8U(r:Rl) (h:fy!) (he:eD!) (hm:m<=hV!) (s:Sto):vE [by!,O!] s=a7! [c! (aR!:Nat),bN! du!]:=by
 have dl:=qq r er! he;have l4:=h.toLot.le4;have oO:=zwi r er! he s;have key:hU! (e=by!->MR r [d] s=k! (z7C mC!)->yC [d] s=v! z!->(∀i,i<z!->c9! d (i:Nat) s=v! b3!)->vE [e,d] s=a7! [c! aR!,bN! du!]):=λd e d8 h1 h2 h3=>by
  have st:zv [cx!,aj!,"deal",ho!,"divided"] [e,d]=j5! l! i!:=rfl;simp only[vE,Mof,z86,st,_d,_k,_v];rw[zm (ρ':=[l!,i!,b! (.fn (dfR r)),a!,a!]) (s':=s) (by simp[d8,(zsn r)])];rw[zm (ρ':=[l!,i!,b! (.fn (dfR r)),fh! aR!,aL! (nL (mC!).2)]) (s':=s) (by
   rw[z4Z,zcq,zkI];simp only[_c,_e];rw[(zwT r)];simp only[zq,zL,ym,_c,_e,Rb,h1,z9H,_L,_F])];have ir:jV (a0! h9!) [l!,i!,b! (.fn (dfR r)),e! aR!,aL! (nL (mC!).2)] s=k! (aT! z! (λi=>aP! (i:Nat)),[]):=by
   rw[zen (n:=v.length) (s1:=s) (by lia) (by simp[h2])];rfl
  have c:=comp_map (mp:=fv! 4 1 3) (fg:=yh 3) (fe:=eIf (dn! (zb0 q!) 3 u!) (eOp z45 (ax! 1 3) (ax! 1 2)) A!) (λi:Nat=>aP! (i:Nat)) (λi:Nat=>aP! (an! (i∈(mC!).2) (b3! / bu! aR!) 0)) (λi=>[aL! (nL (mC!).2),i!,e! aR!,cq!]) pY! ir (λa _=>by rfl) (eH! (by
    have i1:=zum i (mC!).2 s;simp only[zrd,vw,yO,ym,qE,_c,_e,Rb,i1,(h3 i (by simpa using hi)),(h3 _ re!)];by_cases q:i∈(mC!).2
    ·simp only[q,_dj,_v];rw[zao,bS! (by
      rcases dl.pos with z | z;·rw[z]at q;cases q
      ·exact z) (_j (h.abs _ (rg! re!)) (_B (by decide) (by lia)))]
    ·simp only[q,_cG,_aV];rfl)) (by simp[cap];lia);simp only[z5a,yf,z1Q,zq,c,Rb,zL,ym,_c,_e];rw[_g (by simp[cap])];simp[yW,_N]
 exact key _ _ rfl oO (by simp[yC,zY]) (eH! (jx s hi))
theorem eq_str(ha:PyData.strOk a=d!)(hb:PyData.strOk b=d!)(s:Sto):dEq (aD! a) (aD! b) s=cb! (a==b):=by simp[dEq,zjq,eqD,zw6,PyData.eqv,SeqAt.shaped,PyData.canLay0,PyData.depth,ha,hb]
theorem ziq(r:Rl):PyData.strOk (nmR r)=d!:=by cases r<;>decide +kernel
theorem ziD(r:Rl)(s:Sto):dEq by! (aD! gn!) s=fo! (r=.tu):=by
 rw[eq_str (ziq r) (by decide +kernel)];congr 2;cases r<;>decide +kernel
theorem zhW(r:Rl)(xs:x!)(hl:w!<=4)(s:Sto):z01 [by!,af!] s=a7! (hi! xs):=by
 have e1:=z2p xs 1 s;have e2:=z2x xs 1 s;have cp:t! (lB! 1)+t! (nj! 1)<=cap:=by simp[cap];lia
 exact (rh! (by
  have st:zv [cx!,kX!] [d,e]=hB!:=rfl;simp only[z01,Mof,zfg,st,zbG,yf,zrd,(show tOf (dz! dEq 0 (bL! gn!)) hB! s=k! (jb! r .tu) from by simp only[vw,yO,ym,qE,_c,Rb,hd,ziD]),Rb];by_cases q:r=.tu
  ·subst q;simp only[yO,zaK,ym,jo,z1i,qE,_c,_e,Rb,he];rw[show j! 1=eM! 1 from rfl,e2,Rb,e1,Rb,z3a,_g cp];rfl
  ·simp only[q,_cG];rw[z9a q];simp[he]):hU! (d=by!->e=af!->z01 [d,e] s=a7! (hi! xs))) _ _ rfl rfl
theorem zas{α β:bD!}(f:α->D)(g:β->D):∀(l:List α)(k:List β),z4Q m4! (k.map g)=(l.zip k).map (i8! [f p.1,g p.2])
 | [],_=>by rfl | _::_,[]=>by rfl | a::l,b::k=>by simp[z4Q,zas f g l k]
theorem ziS(r:Rl)(f:α->β)(xs:et!):hi! (n7! f)=(hi! xs).map f:=by unfold mvd rot;split<;>simp[_aU]
theorem LotB.q(r:Rl)(h:fy!)(he:eD!):Qs v aR! du!:=zfT f2! (qq r er! he)
theorem zpK(r:Rl)(h:fy!)(he:eD!):∀q∈du!,0<=q/\q<2 ^ m:=λq hq=>by
 have Q:=h.q r he;refine⟨Q.nn q hq,?_⟩;obtain⟨i,hi,rfl⟩:=gr! hq;simp only[yW,_bG,List.getElem_range];have b:=h.bd _ (rg! (by rw[<- Q.len];exact hi));have n0:=ux f2! i;split
 ·have:=_dG (bu! aR!) n0;lia
 ·lia
theorem zqy{n m:Nat} {v:h!} (r:Rl) (h:fy!) (he:eD!) (hm:m<=hV!) (s:Sto):M_step [by!,O!] s=k! (rD dI!):=by
 have l4:=h.toLot.le4;have w:=z7r r er! he s;have dl:=qq r er! he;have ix := jx s re!;have mo:=zhW r (iL (cH! du! aR!)) (by simp[uT (h.q r he).len];lia) s;have key:hU! (e=O!->wH [d,e] s=fs!->vE [d,e] s=a7! [c! aR!,bN! du!]->z01 [d,n! (iL (cH! du! aR!))] s=a7! (hi! (iL (cH! du! aR!)))-> M_step [d,e] s=k! (rD dI!)):=λd e hd h1 h2 h3=>by
  have st:zv [cx!,aj!,ho!,lT!,"left"] [d,e]=j5! i! l!:=rfl;have oP:c9! e aR! s=v! (bu! aR!):=by rw[hd];exact ix
  simp only[M_step,Mof,zia,st,_v];rw[zm (ρ':=j5! i! l!) (s':=s) (by simp[h1]),zm (ρ':=[i!,l!,e! aR!,b! (bN! du!),a!]) (s':=s) (by simp[h2])];have ir:z5b (hY! 1 3) [i!,l!,e! aR!,b! (bN! du!),a!] s=k! ((v.zip du!).map (i8! (cU! p.1 p.2)),[]):=by simp only[zhv,zq,zL,ym,_c,_e,Rb,hd,z9e,zas,_aL]
  have c:=comp_map (mp:=fp! 1 2 a!) (fg:=yS 2 3) (fe:=kK! 2 (fS! 3 (ax! 0 1))) (pK! (gT! (cU! p.1 p.2))) (pK! (aP! (p.1-p.2*bu! aR!))) (λp=>[l!,e! aR!,e! p.1,e! p.2]) _ ir (λp _=>by rfl) (bs! (by
    have hq:=zpK r h he p.2 (mo!).2;have ab:aZ! p.2<2 ^ m:=by
     have:j! (aZ! p.2)<aa! (2 ^ m):=by rw[(_bD hq.1)];exact hq.2
     lia
    simp only[yO,ym,_c,_e,Rb,oP,(z0B s ab (by lia) (h.abs _ (rg! re!)) (by lia)),zlu])) (by simp[cap];lia);rw[(show (v.zip du!).map (pK! (aP! (p.1-p.2*bu! aR!)))=iL (cH! du! aR!) from by
   unfold left;show _=List.map rT! _;rw[List.zip,_bf,_bf])]at c;rw[zm (ρ':=[i!,l!,e! aR!,b! (bN! du!),b! (n! (iL (cH! du! aR!)))]) (s':=s) (by
   rw[zfk,zR,yj,zq,c];rfl)];simp only[zeJ,yf,yj,zq,zL,ym,_c,_e,Rb,h3];rw[ziS];rfl
 exact key _ _ rfl w (z8U r h he hm s) mo
theorem yF{M:Mir} (h:ay!=k! x):ze M (a0! f) ρ s=M [x] s:=by simp only[yj,zq,zL,h,Rb]
theorem call2{M:Mir} (h:ay!=k! x)(h2:g ρ s=k! y):ze M (cc! f g) ρ s=M [x,y] s:=by simp only[yj,zq,zL,h,h2,Rb]
theorem zfU{M:Mir} (h:ay!=k! x)(h2:g ρ s=k! y)(h3:k ρ s=k! z):ze M (zb f (cc! g k)) ρ s=M [x,y,z] s:=by simp only[yj,zq,zL,h,h2,h3,Rb]
theorem op2(h:ay!=k! x)(h2:g ρ s=k! y):eOp o f g ρ s=o x y s:=by simp only[yO,h,h2,Rb]
theorem z3F{n:Nat} (hn:n<=4) (s:Sto):xS [c! n] s=he! bB!:=by
 have st:zv [mw!,lS!] [c! n]=[bC!,a!]:=rfl;simp only[xS,Mof,z21,st,_v];rw[zm (ρ':=[bC!,aL! (yr n)]) (by
  simp only[z1d,zR,zpO,zq,zL,ym,_c,Rb,_g (show j! 0<=n/\j! n<=fF! from by lia),_W];rfl)];simp only[z11,yf];rw[yj,zq,(comp_map (fi:=zQ r!) (mp:=F! 1) (fg:=yh 1) (fe:=dr! cW! (F! 1) 1 (eIf (dn! dEq 0 r!) ah! A!)) (ρ:=[bC!,aL! (yr n)]) (fL! (j! k)) (λi:Nat=>rD (aT! n (λj=>ak! i j 1 0))) (λi=>[aL! (yr n),e! (aa! i)]) i3! (jy (by rfl)) (λa _=>by rfl) (λi _=>by
   rw[yj,zq,(λi=>by
  rw[comp_map (fL! (j! k)) (λj:Nat=>aP! (ak! i j 1 0)) (λj=>[cq!,e! (aa! j)]) i3! (jy (by rfl)) (λa _=>by rfl) (λj _=>by
   by_cases q:i=j;·subst q;simp
   ·have:¬ j! i=j:=by lia
    simp[q,this]) (by simp[cap];lia)];simp[_N]:∀i:Nat,zt cW! (F! 1) (yh 1) zU (eIf (dn! dEq 0 r!) ah! A!) [aL! (yr n),e! (aa! i)] s=k! (bN! (aT! n (λj=>ak! i j 1 0)))) i];rfl) (by simp[cap];lia))];simp only[Rb,zL,z2a];simp[one,_N]
theorem z7N(h:zY s x=b! (xs++[d])):c9! x (-1) s=k! d:=by
 simp only[dIx,h,atI,(show ixN (t! (xs++[d])) (-1)=b! w! from by
  unfold ixN;simp;lia),_O];simp
theorem zkC(xs:x!)(d:D):Dd.cutD (xs++[d]) a! (b! (-1))=xs:=by
 unfold Dd.cutD;rw[(show oh! (t! (xs++[d])) (t! (xs++[d])) (b! (-1))=w! from by
  unfold HT.sIx;simp;lia)];simp[HT.sIx]
theorem zcr{n m:Nat} {v:h!} (r:Rl) (h:fy!) (he:eD!) (hm:m<=hV!) (s:Sto):vA [by!,O!] s=he! fX!:=by
 have l4:=h.toLot.le4;have w:=z7r r er! he s;have dv:=z8U r h he hm s;have dl:=qq r er! he;have oQ:=z3F l4.1 s;have mo := λxs hx=>zhW r xs hx s;have key:hU! (yC [e] s=v! z!->wH [d,e] s=fs!->vE [d,e] s=a7! [c! aR!,bN! du!]->(∀xs:List D,w!<=4->z01 [d,af!] s=a7! (hi! xs))-> vA [d,e] s=he! fX!):=λd e h0 h1 h2 h3=>by
  have st:zv [cx!,aj!,ho!,lT!] [d,e]=fp! d e a!:=rfl;simp only[vA,Mof,z3p,st,_d,_k,_v];rw[zm (ρ':=fp! d e a!) (s':=s) (by simp[h1]),zm (ρ':=[i!,l!,e! aR!,b! (bN! du!)]) (s':=s) (by simp[h2])];have ir:z5b (ip! (aM! xS h9!) 3) [i!,l!,e! aR!,b! (bN! du!)] s=k! (((one z!).zip du!).map (i8! [rD p.1,c! p.2]),[]):=by simp only[zhv,zq,zL,ym,yj,_c,_e,Rb,h0,oQ,z9e,zas,_aL]
  have c:=comp_map (mp:=fp! 0 2 a!) (fg:=yS 2 3) (fe:=da! z01 (bf! (bf! (gh! P! r!) (vj (a0! (bf! (ax! 2 1) bp!)))) (fg! P! (fQ! 1)))) (λp:List Int×Int=>gT! [rD p.1,c! p.2]) (λp:List Int×Int=>rD (hi! (qr aR! p.1 p.2))) (λp=>[i!,e! aR!,bv! p.1,e! p.2]) _ ir (λp _=>by rfl) (bs! (by
    have hl := (z4q z!).row p.1 (mo!).1;have hb:aR!<t! p.1:=by rw[hl];exact dl.lt
    have e1:=z2p (iL p.1) aR! s;have e2:=z2x (iL p.1) (aR!+1) s;have e3:=jx (j:=aR!) s hb;generalize aR!=b at *;have f1:eSl P! zC (yx r!) [i!,fh! b,bv! p.1,e! p.2] s=a7! ((iL p.1).take b):=by exact e1
    have f2:eSl P! (yx (fQ! 1)) zC [i!,e! (j! b),bv! p.1,e! p.2] s=a7! ((iL p.1).drop (b+1)):=by exact e2
    have f3:vj (a0! (bf! (ax! 2 1) bp!)) [i!,e! (j! b),bv! p.1,e! p.2] s=a7! [c! (p.1.getD b 0+p.2)]:=by
     simp only[z1Q,zq,zL,yO,ym,_c,_e,Rb,e3,z91];rw[_g (by simp[cap])]
    rw[call2 (x:=d) (by rfl) (show eOp xf (bf! (gh! P! r!) (vj (a0! (bf! (ax! 2 1) bp!)))) (fg! P! (fQ! 1)) [i!,bc!,bv! p.1,e! p.2] s=a7! (iL (qr b p.1 p.2)) from by
     have c0:t! ((iL p.1).take b)<=4:=_G (List.length_take_le' ..) (by rw[_z,hl];exact l4.1);have c9:t! ((iL p.1).drop (b+1))<=4:=_G (by rw[_ay];exact Nat.sub_le ..) (show t! (iL p.1)<=4 by rw[_z,hl];exact l4.1);rw[yO,yO,f1,Rb,f3,Rb,z3a,_g (by exact _G (_bC c0 (_l 1)) (by decide:4+1<=cap)),Rb,f2,Rb,z3a,_g (by rw[_as];exact _G (_bC (_bC c0 (_l 1)) c9) (by decide:4+1+4<=cap))];simp[qr,_co,_aU]),h3 _ (by simp[qr];lia),ziS])) (by simp[cap,one];lia);simp only[z2h,yf];rw[yj,zq,c];simp only[Rb,zL,z2a];unfold ky z87;rw[xn];simp only[tD];rw[_bf,List.zip,_bf]
 exact key _ _ (by simp[yC,zY]) w dv mo
theorem _root_.Pg.LotB.step{n m:Nat}{v:h!}(r:Rl)(h:fy!)(he:eD!):oL! m dI!:=by
 refine⟨h.toLot.step r he,ac! ?_⟩;have:=zs1 (B:=2 ^ m-1) r h.toLot he (cN! (by have:=h.bd y hy;lia)) x hx;lia
theorem zjX(hd:d=by!) (hm:m<=hV!) (s:Sto) (Rn:gk! c):∀(pre:List (List Int)),oL! m c->pre.length+pI!<=50000-> vk (eR! (aM! xN (di! 2 ea!))) z9Y (pI!+1) [i!,l!,ad!] (s++[el! [c]])=H! [i!,l!,ad!] (s++[el! ls]):=by
 have cX:∀(pre:List (List Int)) (c:List Int),oL! m c->qT (tOf (aM! xN (di! 2 ea!))) [i!,l!,ad!] (s++[el! [c]])=.ok (! ended c) (s++[el! [c]]):=λpre c h=>by
  simp only[vG,vw,yj,zq,zL,yO,ym,zh2,qE,_c,_e,Rb];rw[(z7N (x:=l1!) (d:=rD c) (xs:=pre.map rD) (s:=s++[el! [c]]) (by simp[zY]))];simp only[Rb];rw[(z6h er! (s++[el! [c]]))];rfl
 induction Rn with
 | @done v hend=>
  intro pre h hl;rw[vk,cX pre v h,hend];rfl | @step v ls hend Rn ih=>
  intro pre h hl;rw[_d,vk,cX pre v h,hend,Rb];have cf:=zqy r h hend hm (s++[el! [v]]);rw[<- hd]at cf;have ix:=z7N (x:=l1!) (d:=O!) (xs:=pre.map rD) (s:=s++[el! [v]]) (by simp[zY]);have body:z9Y [i!,l!,ad!] (s++[el! [v]])=H! [i!,l!,ad!] (s++[eP! (pre++[v]++[dI!])]):=by
   have bj:(s++[el! [v]]).set aW! (el! [v]++[rD dI!])=s++[eP! (pre++[v]++[dI!])]:=by simp
   simp only[z9Y,z1s,z9y,yj,zq,zL,yO,ym,zh2,qE,_c,_e,Rb];rw[ix];simp only[Rb];rw[cf];simp only[Rb];rw[(show G! (s++[el! [v]]) aW! (el! [v]) from by simp)];simp only;rw[bS! (yQ _) (by simp[cap]at hl ⊢;lia),bj];rfl
  rw[body,Rb];simp only;rw[(ih (pre++[v]) (pe! hend) (by simp at hl ⊢;lia))];simp
theorem zsT(r:Rl) (h:fy!) (Rn:gk! v) (hm:m<=hV!) (hl:pc!) (s:Sto):zjy [by!,O!] s=gE! (s++[cS!]):=by
 have w:=zbm r er! s;have key:hU! (d=by!->e=O!->zjy [d,e] s=gE! (s++[cS!])):=rh! (by
  have st:zv [cx!,aj!,"lots"] [d,e]=fw! d e:=rfl;simp only[zjy,Mof,zmm,st,_v];rw[zm (ρ':=fw! d e) (s':=s) (by simp[(show yc [d,e] s=fs! from by rw[hd,he];exact w)])];rw[zm (by
   simp only[zdH,zR,z7S,zq,zL,ym,_e,_c,Rb];rw[bS! (by simp[cap]) (by simp[flC,flN,(show e.flat=d! from by rw[he];exact (yQ _))])];rfl)];have lp:=zjX (e:=e) hd hm s Rn [] h (by simpa using hl);rw[_aw]at lp;rw[show eP! [v]=[e] from by rw[he];rfl]at lp;rw[zm (by exact z3s lp (by simp))];rfl)
 exact key _ _ rfl rfl
theorem zjd(h:fy!)(Rn:gk! v):∀a∈ls.dropLast,oL! m a/\ended a=q!:=by induction Rn with
 | done e=>simp | step e R2 ih=>
  intro a ha;rw[List.dropLast_cons_of_ne_nil R2.ne]at ha;rcases ep! ha with rfl | ha;·exact dD! h
  ·exact ih (pe! e) a ha
theorem znU{n m:Nat}{B:Int}{P:Tb}{c x:h!}(I:PI n B P c x)(hB:B<2 ^ m):Bd m P:=λrow hr y hy=>by
 have:=I.nn row hr y hy;have:q8!<aa! (2 ^ m):=by rw[(show aa! (2 ^ m)=2 ^ m from by rfl)];lia
 lia
theorem zic{n m:Nat}{v:h!}(r:Rl)(h:fy!)(he:eD!):Bd m fX!:=λrow hr y hy=>by
 have:=zol (B:=2 ^ m-1) r h.toLot he (cN! (by have:=h.bd y hy;lia)) row hr y hy;have e2:aa! (2 ^ m)=2 ^ m:=by rfl
 lia
def z4e:Tb->em! Tb->em! Tb
 | P,[]=>[P] | P,T::ts=>P::z4e (jH P T) ts
theorem z8Z:∀(ts:List Tb)(P:Tb),(z4e P ts).getLast? = b! (ts.foldl jH P)
 | [],P=>rfl | T::ts,P=>by rw[z4e,List.getLast?_cons,z8Z ts];rfl
theorem z9m(T:Tb):(tD T).flat=d!:=by
 show dj! nL!;induction T with
 | nil=>rfl | cons r T ih=>simp only[_u,flC,flN,ih,Bool.and_true];exact yQ r
theorem z6Y(d t:D) (hn:be!) (hB:B<2 ^ m) (hm:m<=hV!) (hx:∀y∈x,y<=B) (s:Sto) (Rn:gk! c):∀(P:Tb) (pre:List Tb) (all:List D) (z:Option D),oL! m c->PI n B P c x->pre.length+pI!<=50000-> ∃z',yT [] all (eO! (yh 3 d ρ s) (xr ρ' s')) fu! [i!,b! t,ad!,z] (s++[f6! (pre++[P])])=H! [i!,b! t,ad!,z'] (s++[f6! (pre++z4e P jT!)]):=by induction Rn with
 | done he=>exact λP pre all z h I hl=>⟨z,by simp[zO,yT,okG,z4e]⟩ | @step v ls he R2 ih=>
  intro P pre all z h I hl;have mm:=zbh (s++[f6! (pre++[P])]) hn I.tab (z1D r er! he) (znU I hB) (zic r h he) (by lia) (by lia);obtain⟨z',ih⟩:=ih (jH P fX!) (pre++[P]) all kL! (pe! he) (I.step r hx er! he) (by simp at hl ⊢;lia);have ix:=z7N (x:=l1!) (d:=tD P) (xs:=pre.map tD) (s:=s++[f6! (pre++[P])]) (by simp[zY]);have body:xr [i!,b! t,ad!,kL!] (s++[f6! (pre++[P])])=H! [i!,b! t,ad!,kL!] (s++[f6! (pre++[P]++[jH P fX!])]):=by
   have gt:G! (s++[f6! (pre++[P])]) aW! (f6! (pre++[P])):=by simp
   have bj:(s++[f6! (pre++[P])]).set aW! (f6! (pre++[P])++[tD (jH P fX!)])=s++[f6! (pre++[P]++[jH P fX!])]:=by simp
   have fl:=z9m (jH P fX!);generalize (s++[f6! (pre++[P])])=S at *;have cc:ze vz (ip! (di! 2 ea!) 3) [i!,b! t,ad!,kL!] S=.ok (tD (jH P fX!)) S:=by
    rw[call2 (by exact ix) (y:=tD fX!) (by rfl)];exact mm
   rw[xr,z1s,z9y];simp only[ym,_c,_e,Rb];rw[cc];simp only[Rb];rw[gt];simp only;rw[bS! fl (by simp[cap]at hl ⊢;lia),bj];rfl
  rw[R2.tabs_cons,_u,yT,_g (by intro p hp;cases hp),vX,Rb];simp only[_L,_F];rw[body,Rb];simp only;rw[ih,z4e];simp
theorem zhV(r:Rl) (h:fy!) (Rn:gk! v) (hm:m<=hV!) (hl:pc!) (s:Sto):wn [c! n,X! fu!] s=gE! (s++[f6! (z4e bB! jT!)]):=by
 have key:∀d t:D,d=c! n->t=X! fu!->wn [d,t] s=gE! (s++[f6! (z4e bB! jT!)]):=λd t hd ht=>by
  have st:zv [mw!,nw!,"products",eI!] [d,t]=fp! d t a!:=rfl;simp only[wn,Mof,ji,st,_v];rw[zm (ρ':=fp! d t ad!) (s':=s++[[tD bB!]]) (by
   have c2:ze xS (b9! 0) (fp! d t a!) s=he! bB!:=by rw[hd];exact (z3F (n:=n) (by have:=h.sz;lia) s)
   rw[wW,zR,z7S,zq,c2];simp only[Rb,zL];rw[bS! (by simp[cap]) (by simp[flC,flN,(z9m bB!)])];rfl)];obtain⟨z',lp⟩:=z6Y d t h.sz (B:=2 ^ m-1) (by lia) hm (cN! (by have:=h.bd y hy;lia)) s Rn bB! [] fu! none h (PI.start er! (cN! (by have:=h.bd y hy;lia))) (by simpa using hl);rw[zm (by
   rw[wU,jP,jy (xs:=fu!) (by simp[ht])];exact lp)];rfl
 exact key _ _ rfl rfl
theorem ziV{i:Int}(h0:0<=i)(h:i<2 ^ bK!):eF!<BIG:=by exact _cJ.mp (_cY (by rw[(_bD h0)];exact h) (by decide +kernel))
theorem z1u(s:Sto)(ha:0<=a)(ge:a<2 ^ bK!)(hb:0<=b)(iI:b<2 ^ bK!):yB gd! fe! s=v! (a*b):=by rw[zgN,bS! (ziV ha ge) (ziV hb iI)]
theorem zhL(s:Sto)(hb:0<b)(iI:b<2 ^ bK!):z45 gd! fe! s=v! (a / b):=by rw[zao,bS! hb (ziV (by lia) iI)]
theorem zq5(ns:h!) (k:Nat) (s:Sto):∃c,uR [dF!,c! k] s=v! c:=by
 have st:zv [lU!,pA!] [dF!,c! k]=[b! dF!,bh!]:=rfl;have gl:yC [dF!] s=v! e1!:=by
  show eG! (aP! (t! (iL ns):Nat)) s=_;rw[_z]
 have t:tOf (dz! dLt 1 ch!) [b! dF!,bh!] s=k! (bl! (j! k<e1!)):=by rw[vw,op3 (r:=fo! (j! k<e1!)) bn! (cl3 lp! gl) rfl];rfl
 simp only[uR,Mof,z0Y,st,_d,_k,_v];by_cases h:k<e1!
 ·have hl:k<t! (iL ns):=by rw[_z];exact h
  have e:ixN (t! (iL ns)) k=b! k:=by
   unfold ixN;rw[_g (Int.natCast_nonneg k),_g (_cJ.mpr hl)];rfl
  have ix:c9! dF! k s=v! (ns[k]):=by
   simp only[dIx,zY,atI,e,_O];simp[h]
  refine⟨ns[k],?_⟩;rw[vV (d:=c! (ns[k])) (s':=s) (by rw[qt,kI,t,Rb,_g (_af (_cJ.mpr h)),z0A,yf,op3 bn! bn! ix,Rb])]
 ·exact⟨0,by rw[zm (ρ':=[b! dF!,bh!]) (s':=s) (by rw[qt,kI,t,Rb,_o (by rw[_U (mt _cJ.mp h)];decide)];rfl)];rfl⟩
def Pot(s:Sto)(l:Nat):g!:=∃p:Int,G! s l [c! p]
theorem Pot.lt(h:Pot s l):l<aW!:=by
 obtain⟨p,e⟩:=h;exact cV! e
theorem Pot.app(h:Pot s l)(t:Sto):Pot (s++t) l:=by
 obtain⟨p,e⟩:=h;exact⟨p,by rw[_H (cV! e)];exact e⟩
structure vK(s s':Sto)(l:Nat):g! where
 pot:Pot s' l
 len:s'.length=aW!
 oth:∀m,m≠l->s'[m]? = s[m]?
inductive Tk(iJ:R D)(far:Int)(s:Sto)(l:Nat):g! | mk (r:Int)(s':Sto)(e:iJ=bz! (c! r))(a:0<=r)(b:r<far)(c:vK s s' l)
theorem zry(h:Pot s l)(h0:0<far)(h1:far<2 ^ bK!):Tk (zB [db!,c! far] s) far s l:=by
 obtain⟨p,e⟩:=h;refine⟨p % far,s.set l [c! (p / far)],?_,_a8 _ (by lia),_bm _ h0,⟨p / far,by rw[_aj (cV! e)]⟩,by simp,λm hm=>_ac (_bT hm)⟩;have st:zv [dy!,pD!,gs!] [db!,c! far]=[J!,dU!,a!]:=rfl;have di:c9! db! 0 s=v! p:=by simp[dIx,zY,e,atI,ixN]
 have q1:z3D [J!,dU!,a!] s=aN! [J!,dU!,e! (p % far)]:=zo5 (op3 (g7! bn! di) bn! (z6P s h0));have q2:z02 [J!,dU!,e! (p % far)] s=H! [J!,dU!,e! (p % far)] (s.set l [c! (p / far)]):=by
  rw[z02,zdM,op3 (g7! bn! di) bn! (zhL s h0 h1),Rb,show zd 0 [J!,dU!,e! (p % far)] s=k! db! from rfl,Rb,show eC cu! [J!,dU!,e! (p % far)] s=v! 0 from rfl,Rb];simp only[e];rfl
 simp only[zB,Mof,z50,st,_d,_k,_v];rw[zm q1,zm q2];rfl
theorem ztp(s:Sto):zcT (c! 10) (c! 18) s=v! pM!:=by rfl
theorem zwc(s:Sto):zcT (c! 10) (c! 6) s=v! 1000000:=by rw[zmt];rfl
theorem pow_step(h:m<2147483648 ^ j)(hr:r<lW!):m*lW!+r<2147483648 ^ (j+1):=by lia
theorem zri{m j:Nat}(h:m<2147483648 ^ j)(hj:j<=64):j! m<2 ^ bK!:=by
 have h2:2147483648 ^ 64<=2 ^ bK!:=by decide +kernel
 exact _cJ.mpr (_j h (_G (_B (by decide) hj) h2))
theorem zud(c:Int) (s:Sto):∃p:Int,z1C [c! c] s=gE! (s++[[c! p]]):=by
 have st:zv ["_law_cell",b8!,"_law_j",oz!] [c! c]=[e! c,a!,a!,a!]:=rfl;have pw:eOp zcT (E! 10) (E! 18) [e! c,a!,a!,a!] s=v! pM!:=g7! rfl (ztp s);have tq:tOf (dz! dGe 0 (eOp zcT (E! 10) (E! 18))) [e! c,a!,a!,a!] s=k! (jv! pM! c):=by rw[vw,op3 (r:=fo! (pM!<=c)) bn! pw rfl];rfl
 simp only[z1C,Mof,z71,st,_d,_k,_v];by_cases h:pM!<=c
 ·have e0:jJ [e! c,a!,a!,a!] s=.ok (.rt l1!) (s++[[c! (c-pM!)]]):=by
   rw[jJ,kI,tq,Rb,_g (_af h),z52,yf,z7S,zq,op3 (r:=v! (c-pM!)) bn! pw rfl];rfl
  exact f9! (by rw[vV e0])
 ·have lp:∃ ρ' s',z4W [e! c,e! 0,a!,a!] s=H! ρ' s'/\∃(m:Nat) (a b:Option D),ρ'=[e! c,e! m,a,b]/\s'=s:=by
   obtain⟨ρ',s',e,m,a,b,e1,e2,_⟩:=z1K (body:=eO! (yh 2 d ρ s) ((a6! z1g z12 z1h) ρ' s')) (λj ρ s'=>∃(m:Nat) (a b:Option D),ρ=[e! c,e! m,a,b]/\s'=s/\m<2147483648 ^ j) (yr 64) 0 (λj x hx ρ s' hi=>by
    obtain⟨m,a,b,rfl,rfl,hm⟩:=hi;obtain⟨hj,rfl⟩:=z3x hx;rw[_at]at hm;have a1:zeK (c! c) (c! pC!) s'=bz! (c! (c % pC!)):=z6P s' (by decide);have a2:yB (c! 7919) (c! j) s'=bz! (c! (7919*j)):=z1u s' (by decide) (by decide +kernel) (by lia) (by lia);have a3:yB (c! (c % pC!+7919*j+1)) (c! 48271) s'=bz! (c! ((c % pC!+7919*j+1)*48271)):=z1u s' (by lia) (by lia) (by decide) (by decide +kernel);generalize iA:(c % pC!+7919*j+1)*48271 % 2147483647=x1;have b0:0<=x1:=by rw[<- iA];exact _a8 _ (by decide)
    have a4:zeK (c! ((c % pC!+7919*j+1)*48271)) (c! 2147483647) s'=bz! (c! x1):=by rw[<- iA];exact z6P s' (by decide)
    have a6:yB (c! 69621) (c! j) s'=bz! (c! (69621*j)):=z1u s' (by decide) (by decide +kernel) (by lia) (by lia);generalize gu:(x1*x1+69621*j+7) % lW!=x2;have a7:zeK (c! (x1*x1+69621*j+7)) (c! lW!) s'=bz! (c! x2):=by rw[<- gu];exact z6P s' (by decide)
    have a8:yB (c! m) (c! lW!) s'=bz! (c! (m*lW!)):=z1u s' (by lia) (zri hm (by lia)) (by decide) (by decide +kernel);obtain⟨y,rfl⟩:=Int.eq_ofNat_of_zero_le (show 0<=x2 from by rw[<- gu];exact _a8 _ (by decide));refine⟨[e! c,fh! (m*lW!+y),aO!,e! y],s',?_,m*lW!+y,_,_,rfl,rfl,?_⟩
    ·have e5:z1g [e! c,e! m,aO!,b] s'=H! [e! c,e! m,aO!,e! x1] s':=zo5 (g7! (g7! (g7! (op3 (g7! bn! a1) (op3 rfl bn! a2) rfl) rfl) a3) a4);have e6:z12 [e! c,e! m,aO!,e! x1] s'=H! [e! c,e! m,aO!,e! y] s':=zo5 (g7! (g7! (op3 (op3 bn! bn! (z1u s' b0 (by lia) b0 (by lia))) (op3 rfl bn! a6) rfl) rfl) a7);have e7:z1h [e! c,e! m,aO!,e! y] s'=H! [e! c,fh! (m*lW!+y),aO!,e! y] s':=zo5 (op3 (g7! bn! a8) bn! (by rw[z91];rfl));exact g3! (zm e5) (zm e6) e7
    ·rw[_at];exact pow_step hm (by lia)) [e! c,e! 0,a!,a!] s ⟨0,a!,a!,rfl,rfl,by decide⟩;exact⟨ρ',s',by exact e,m,a,b,e1,e2⟩
  obtain⟨ρ',s',e,m,a,b,rfl,rfl⟩:=lp;rw[zm (ρ':=[e! c,a!,a!,a!]) (s':=s') (by rw[jJ,kI,tq,Rb,_o (by rw[_U h];decide)];rfl),zm (ρ':=[e! c,e! 0,a!,a!]) (s':=s') (by rfl),zm e];simp[flC,flN,za6,cap]
theorem zbP{α:bD!} (hg:okG gd all s)(g f:α->D):∀(l:List α)(acc:List D),(∀a∈l,body (g a) s=k! (b! (f a)))->im!+hT!<=cap->qp gd all dM! kA! acc s=k! (acc++m4!)
 | [],acc,_,_=>by simp[qp,hg] | x::xs,acc,hb,hl=>by
  have ih:=zbP hg g f xs (acc++[f x]) (cN! (hb y (by simp[hy]))) (by simp at hl ⊢;lia);have hc:im!<cap:=by simp at hl;lia
  rw[_u,qp,_g hg,hb x (by simp)];simp[hc,ih]
structure LS(s0:Sto)(l:Nat)(s:Sto)(xs:h!):g! where
 pot:Pot s l
 len:aW!=k0!+1
 at_:G! s k0! (iL xs)
 oth:∀m,m≠l->m<k0!->s[m]? = s0[m]?
theorem LS.drawn(h:LS s0 l s xs)(hl:l<k0!)(d:vK s s' l):LS s0 l s' xs:= ⟨d.pot,by rw[d.len,h.len],by rw[d.oth _ (by lia)];exact h.at_,λm h1 h2=>by rw[d.oth m h1];exact h.oth m h1 h2⟩
theorem LS.set(h:LS s0 l s xs)(hl:l<k0!)(ys:h!):LS s0 l (s.set k0! (iL ys)) ys:=by
 refine⟨?_,by simp[h.len],_aj (by rw[h.len];lia),λm h1 h2=>?_⟩
 ·obtain⟨p,e⟩:=h.pot;exact⟨p,by rw[_ac (by lia)];exact e⟩
 ·rw[_ac (by lia)];exact h.oth m h1 h2
theorem LS.fin(h:LS s0 l s xs)(hl:l<k0!):vK s0 (s.take k0!) l:=by
 obtain⟨p,e⟩:=h.pot;refine⟨⟨p,by rw[_an hl];exact e⟩,by simp[h.len],λm h1=>?_⟩;by_cases h2:m<k0!;·rw[_an h2];exact h.oth m h1 h2
 ·rw[_M (by simp[h.len];lia),_M (by lia)]
theorem LS.start(d:vK s0 s l)(h:Pot s0 l)(xs:h!):LS s0 l (s++bI! xs) xs:= ⟨d.pot.app _,by simp[d.len],by rw[<- d.len];simp,λm h1 h2=>by rw[_H (by rw[d.len];exact h2)];exact d.oth m h1⟩
theorem vK.refl(h:Pot s l):vK s s l:=aH! h (λ_ _=>rfl)
theorem vK.trans(a:vK s s1 l)(b:vK s1 s2 l):vK s s2 l:=⟨b.pot,by rw[b.len,a.len],λm h=>by rw[b.oth m h,a.oth m h]⟩
theorem vC(h:Pot s l)(h0:0<far)(h1:far<2 ^ bK!)(hf:ay!=k! db!)(hg:g ρ s=v! far):Tk (ze zB (cc! f g) ρ s) far s l:=by
 obtain⟨r,s',e,a,b,c⟩:=zry h h0 h1;exact⟨r,s',by rw[call2 hf hg,e],a,b,c⟩
theorem zpN(s:Sto):zcT (c! 10) (c! 30) s=v! fK!:=by rw[zmt];rfl
theorem wO(h0:0<=i)(h:G! xs kU! d):c9! bx! i s=k! d:=by
 have hj := cV! h;simp only[dIx,zY,atI,(show k5! i=b! kU! from by
  unfold ixN;rw[_g h0,_g (by lia)]),_O,h]
theorem zbg(hl:G! s l xs)(h0:0<=i)(h:G! xs kU! d):c9! db! i s=k! d:=by
 have hj := cV! h;simp only[dIx,zY,hl,atI,(show k5! i=b! kU! from by
  unfold ixN;rw[_g h0,_g (by lia)]),_O,h]
theorem zmA(ha:gM! s=k! (.loc L))(hb:fb ρ s=ba! (c! x))(at_:G! s2 L (iL xs))(hl:w!<fF!):wq (zdv fa fb) ρ s=H! ρ (oo! L (iL (xs++[x]))):=by
 rw[z1s,z9y,ha,Rb];simp only;rw[hb,Rb];simp only[at_];rw[bS! (za6 x) (by simp[cap];lia)];simp
theorem z6o{i x:Int}(hc:fc ρ s=I! (c! x))(ha:gM! s1=I! (.loc L))(hb:gg!=ba! U!)(at_:G! s2 L (iL xs))(h0:0<=i)(h1:i<w!):z1k fa fb fc ρ s=H! ρ (oo! L (iL (iL! kU! x))):=by
 rw[zdM,hc,Rb,ha,Rb,hb,Rb];simp only[at_,(show ixN (t! (iL xs)) i=b! kU! from by
  unfold ixN;rw[_g h0,_g (by simp;lia)]),za6,_v,_ba]
theorem zj9{xs:h!} (h:∀y∈xs,0<=y/\y<=B)(hx:0<=x/\x<=B):∀y∈iL! i x,0<=y/\y<=B:=cN! (by
 rcases _A hy with h2 | h2;·exact h y h2
 ·rw[h2];exact hx)
theorem zo8(s:Sto)(h0:0<=r)(h1:r<6):∃far:Int,c9! (X! [c! 13,c! fF!,c! 1000000,c! fK!,c! 3,c! 60]) r s=v! far/\3<=far/\far<=fK!:=by
 have:r=0\/r=1\/r=2\/r=3\/r=4\/r=5:=by lia
 rcases this with rfl | rfl | rfl | rfl | rfl | rfl;·exact⟨13,kN! (by decide),by decide,by decide⟩
 ·exact⟨fF!,kN! (by decide),by decide,by decide⟩
 ·exact⟨1000000,kN! (by decide),by decide,by decide⟩
 ·exact⟨fK!,kN! (by decide),by decide,by decide⟩
 ·exact⟨3,kN! (by decide),by decide,by decide⟩
 ·exact⟨60,kN! (by decide),by decide,by decide⟩
theorem bB:j! fK!<2 ^ bK!:=by decide +kernel
theorem kL{x:Int}(h:dv! x):x<2 ^ bK!:=_bn h (by decide +kernel)
theorem zf7{s0:Sto} {l:Nat} {far thin:Int} (hl:l<k0!) (f0:3<=far) (f1:far<=fK!) (a1:fN!):∀(k j:Nat) (all:List D) (s:Sto) (xs:List Int) (p q:Option D),LS s0 l s xs->(∀y∈xs,0<=y/\y<=fK!)->w!=j->j+k<=4-> ∃s' ys p' q',yT [] all (eO! (yh 5 d ρ s) ((zy jB jQ) ρ' s')) ((os! j k).map λi=>aP! (aa! i)) [J!,a1,dU!,hw!,mL!,p,q,a!] s=H! [J!,a1,dU!,hw!,mL!,p',q',a!] s'/\LS s0 l s' ys/\(∀y∈ys,0<=y/\y<=fK!)/\cO!=j+k
 | 0,j,all,s,xs,p,q,h,hx,hj,_=>⟨s,xs,p,q,by simp[yT,okG],h,hx,by lia⟩ | k+1,j,all,s,xs,p,q,h,hx,hj,hk=>by
  obtain⟨r1,s1,e1,pY,pZ,d1⟩:=vC (ρ:=[J!,a1,dU!,hw!,mL!,aO!,q,a!]) (f:=u!) (g:=P!) h.pot (by lia) (_bn f1 bB) (by rfl) (by rfl);have h1:=h.drawn hl d1;obtain⟨r2,s2,e2,p6,p7,d2⟩:=vC (ρ:=[J!,a1,dU!,hw!,mL!,aO!,e! (r1+1),a!]) (f:=u!) (g:=E! 4) (far:=4) h1.pot (by decide) (kL (by decide)) (by rfl) (by rfl);have h2:=h1.drawn hl d2;have hv:∃x:Int,yB (c! (r1+1)) (c! (aF! (jv! thin r2) 1 0)) s2=ba! (c! x)/\0<=x/\x<=fK!:=by
   refine⟨(r1+1)*(aF! (jv! thin r2) 1 0),z1u s2 (by lia) (_bn (show r1+1<=fK! by lia) bB) (by split<;>decide) (by split<;>exact kL (by decide)),?_⟩;split<;>lia
  obtain⟨x,ex,x0,x1⟩:=hv;have h3:=h2.set hl (xs++[x]);obtain⟨s',ys,p',q',e3,h4,y4,l4⟩:=zf7 hl f0 f1 a1 k (j+1) all (oo! k0! (iL (xs++[x]))) (xs++[x]) aO! (e! (r1+1)) h3 (by
   intro y hy;rcases nl! hy with hy | hy;·exact hx y hy
   ·simp at hy;subst hy;exact as! x0 x1) (by simp[hj]) (by lia);refine⟨s',ys,p',q',?_,h4,y4,by lia⟩;have b1:jB [J!,a1,dU!,hw!,mL!,aO!,q,a!] s=gH! [J!,a1,dU!,hw!,mL!,aO!,e! (r1+1),a!]:=by
   rw[jB,zR,yO,e1];rfl
  have b2:jQ [J!,a1,dU!,hw!,mL!,aO!,e! (r1+1),a!] s1=H! [J!,a1,dU!,hw!,mL!,aO!,e! (r1+1),a!] (oo! k0! (iL (xs++[x]))):=by
   have ev:eOp yB (zd 6) (aM! ze9 (eOp dGe (da! zB (E! 4)) bp!)) [J!,a1,dU!,hw!,mL!,aO!,e! (r1+1),a!] s1=ba! (c! x):=by
    have g:ze ze9 (a0! (eOp dGe (da! zB (E! 4)) bp!)) [J!,a1,dU!,hw!,mL!,aO!,e! (r1+1),a!] s1=ba! (c! (aF! (jv! thin r2) 1 0)):=by
     rw[yj,zq,yO,e2];rfl
    rw[yO];simp only[ym,_c,_e,Rb];rw[g,Rb,ex]
   rw[jQ];exact zmA (by rfl) ev h2.at_ (by lia)
  rw[List.range'_succ,_u,yT,_g (by intro p hp;cases hp),vX,Rb];simp only[_L,_F];rw[zlv,b1,Rb];simp only;rw[b2,Rb];simp only;exact e3
theorem zeN: zfu n (k! O!)=.ok O! (s.take n):=z1F (yQ v)
theorem zhP(h:a4! ns)(e:G! s L (iL ns))(hf:ay!=k! (.loc L)):tOf (eOp dEq (aM! vY f) A!) ρ s=k! (jb! nN! 0):=by
 rw[vw,yO,yF hf,zkz h e];rfl
theorem zg9(h:a4! ns)(hn:∀y∈ns,0<=y)(hm:nN!≠0):∃x∈ns,0<x:=⟨nN!,kW! h,by have:=hn _ (kW! h);lia⟩
inductive TkL(s:Sto)(l:Nat):g! | mk (n:Nat)(v:h!)(s':Sto)(e:z1H [db!] s=bz! O!)(b:j2!)(c:vK s s' l)
theorem zuB{s:Sto} {l:Nat} (h:Pot s l):TkL s l:=by
 have hl:=h.lt;have st:zv [dy!,f0!,pD!,"_law_thin",kY!,eJ!,b8!,oz!] [db!]=[J!,a!,a!,a!,a!,a!,a!,a!]:=rfl;obtain⟨r1,s1,e1,a1,b1,d1⟩:=vC (ρ:=[J!,a!,a!,a!,a!,a!,a!,a!]) (f:=u!) (g:=E! 3) (far:=3) h (by decide) (kL (by decide)) (by rfl) (by rfl);obtain⟨n,hn⟩:∃n:Nat,2+r1=j! n:=⟨fI! (2+r1),by lia⟩;have bf:be!:=by unfold Sz;lia
 have p1:z1v [J!,a!,a!,a!,a!,a!,a!,a!] s=gH! [J!,bC!,a!,a!,a!,a!,a!,a!]:=by
  rw[z1v,zR,yO,qE,Rb,e1];simp[hn]
 obtain⟨r2,s2,e2,a2,b2,d2⟩:=vC (ρ:=[J!,bC!,a!,a!,a!,a!,a!,a!]) (f:=u!) (g:=E! 6) (far:=6) d1.pot (by decide) (kL (by decide)) (by rfl) (by rfl);obtain⟨far,ef,f0,f1⟩:=zo8 s2 a2 b2;have p2:z1o [J!,bC!,a!,a!,a!,a!,a!,a!] s1=H! [J!,bC!,dU!,a!,a!,a!,a!,a!] s2:=by
  rw[z1o,zR,yO];have:qg (dY! (E! 13) (E! fF!) (eOp zcT (E! 10) (E! 6)) (eOp zcT (E! 10) (E! 30)) (cc! (E! 3) (E! 60))) [J!,bC!,a!,a!,a!,a!,a!,a!] s1=I! (X! [c! 13,c! fF!,c! 1000000,c! fK!,c! 3,c! 60]):=by exact zlp (jf! rfl rfl (jf! (g7! rfl (zwc s1)) (g7! rfl (zpN s1)) (jf! rfl rfl rfl))) (by decide)
  rw[this,Rb,e2,Rb,ef];rfl
 obtain⟨thin,s3,e3,a3,b3,d3⟩:=vC (ρ:=[J!,bC!,dU!,a!,a!,a!,a!,a!]) (f:=u!) (g:=E! 4) (far:=4) d2.pot (by decide) (kL (by decide)) (by rfl) (by rfl);have p3:z1j [J!,bC!,dU!,a!,a!,a!,a!,a!] s2=H! [J!,bC!,dU!,hw!,a!,a!,a!,a!] s3:=by
  rw[z1j,zR,e3];rfl
 have dd:=aJ! (d1.trans d2) d3;have p4:z1t [J!,bC!,dU!,hw!,a!,a!,a!,a!] s3=H! [J!,bC!,dU!,hw!,ad!,a!,a!,a!] (s3++bI! []):=by
  rw[z1t,zR,z7S,zL,Rb,bS! (by decide) rfl,dd.len];rfl
 have L0:=LS.start dd h [];obtain⟨s5,xs,p',q',e5,L5,x5,n5⟩:=zf7 (thin:=thin) hl f0 f1 bC! n 0 (yr n) (s3++bI! []) [] none none L0 (by decide) rfl (by unfold Sz at bf;lia);have p5:jw [J!,bC!,dU!,hw!,ad!,a!,a!,a!] (s3++bI! [])=H! [J!,bC!,dU!,hw!,ad!,p',q',a!] s5:=by
  rw[jw,jP,zen (n:=n) (s1:=s3++bI! []) (by unfold Sz at bf;lia) (by rfl),Rb];rw[show (yr n)=(os! 0 n).map (λi=>aP! (aa! i)) from by rw[yr,List.range_eq_range']]at e5 ⊢;exact e5
 let V:Ev:=[J!,bC!,dU!,hw!,ad!,p',q',a!];have p5:jw [J!,bC!,dU!,hw!,ad!,a!,a!,a!] (s3++bI! [])=H! V s5:=p5;rw[_at]at n5;have oR:a4! xs:=λz=>by rw[z]at n5;simp at n5;unfold Sz at bf;lia
 have s8:∃s6 ys,jG V s5=H! V s6/\LS s l s6 ys/\(∀y∈ys,0<=y/\y<=fK!)/\cO!=n:=by
  have t:=zhP (f:=zd 4) (ρ:=V) oR L5.at_ (by rfl);by_cases z:kf! xs=0
  ·obtain⟨ra,sa,ea,aa,ba,da⟩:=vC (ρ:=V) (f:=u!) (g:=P!) (far:=far) L5.pot (by lia) (_bn f1 bB) (by rfl) (by rfl);have La:=L5.drawn hl da;obtain⟨rb,sb,eb,ab,bb,db⟩:=vC (ρ:=V) (f:=u!) (g:=r!) (far:=n) La.pot (by unfold Sz at bf;lia) (kL (by unfold Sz at bf;lia)) (by rfl) (by rfl);have Lb:=La.drawn hl db;refine⟨_,_,?_,Lb.set hl (iL! rb.toNat (1+ra)),zj9 x5 (by lia),by simp[n5]⟩;rw[jG,kI,t,Rb,_g (by simpa using z),z4z];exact z6o (by rw[yO,qE,Rb,ea];rfl) (by rfl) eb Lb.at_ ab (by lia)
  ·refine⟨s5,xs,?_,L5,x5,n5⟩;rw[jG,kI,t,Rb,_o (by simpa using z)];rfl
 obtain⟨s6,ys,p8,L6,x6,n6⟩:=s8;obtain⟨r7,s7,e7,a7,b7,d7⟩:=vC (ρ:=V) (f:=u!) (g:=E! 12) (far:=12) L6.pot (by decide) (kL (by decide)) (by rfl) (by rfl);have L7:=L6.drawn hl d7;let U:Ev:=[J!,bC!,dU!,hw!,ad!,p',q',e! (1+r7)];have oS:z0l V s6=H! U s7:=by
  rw[z0l,zR,yO,qE,Rb,e7];rfl
 have oU:∃s8 zs,qW U s7=H! U s8/\LS s l s8 zs/\(∀y∈zs,0<=y/\y<=fK!)/\zs.length=n:=by
  obtain⟨rt,st,et,_,_,dt⟩:=vC (ρ:=U) (f:=u!) (g:=E! 3) (far:=3) L7.pot (by decide) (kL (by decide)) (by rfl) (by rfl);have Lt:=L7.drawn hl dt;have t:tOf (eOp dEq (da! zB (E! 3)) A!) U s7=.ok (jb! rt 0) st:=by rw[vw,yO,et];rfl
  by_cases z:rt=0
  ·obtain⟨ra,sa,ea,aa,ba,da⟩:=vC (ρ:=U) (f:=u!) (g:=r!) (far:=n) Lt.pot (by unfold Sz at bf;lia) (kL (by unfold Sz at bf;lia)) (by rfl) (by rfl);have La:=Lt.drawn hl da;obtain⟨rb,sb,eb,ab,bb,db⟩:=vC (ρ:=U) (f:=u!) (g:=r!) (far:=n) La.pot (by unfold Sz at bf;lia) (kL (by unfold Sz at bf;lia)) (by rfl) (by rfl);have Lb:=La.drawn hl db;have lq:ra.toNat<cO!:=by lia
   have ix:=zbg (d:=c! (ys[ra.toNat])) La.at_ aa (by simp[lq]);have my:=x6 ys[ra.toNat] (_J lq);refine⟨_,_,?_,Lb.set hl (ys.set rb.toNat ys[ra.toNat]),zj9 x6 my,by simp[n6]⟩;rw[qW,kI,t,Rb,_g (by simpa using z),z2U];exact z6o (op3 bn! ea ix) (by rfl) eb Lb.at_ ab (by lia)
  ·refine⟨st,ys,?_,Lt,x6,n6⟩;rw[qW,kI,t,Rb,_o (by simpa using z)];rfl
 obtain⟨s8,zs,oV,L8,x8,n8⟩:=oU;have lu:a4! zs:=λz=>by rw[z]at n8;simp at n8;unfold Sz at bf;lia
 have oW:∃s9 ws,qS U s8=H! U s9/\LS s l s9 ws/\(∀y∈ws,0<=y/\y<=fK!)/\ws.length=n/\∃x∈ws,0<x:=by
  have t:=zhP (f:=zd 4) (ρ:=U) lu L8.at_ (by rfl);by_cases z:kf! zs=0
  ·refine⟨_,_,?_,L8.set hl (zs.set (j! 0).toNat 1),zj9 x8 (by lia),by simp[n8],1,?_,by decide⟩
   ·rw[qS,kI,t,Rb,_g (by simpa using z),z2V];exact z6o (s1:=s8) (s2:=s8) (L:=s.length) (i:=0) (x:=1) (by rfl) (by rfl) (by rfl) L8.at_ (by decide) (by unfold Sz at bf;lia)
   ·exact List.mem_set (by unfold Sz at bf;lia) _
  ·refine⟨s8,zs,?_,L8,x8,n8,zg9 lu (cN! (x8 y hy).1) z⟩;rw[qS,kI,t,Rb,_o (by simpa using z)];rfl
 obtain⟨s9,ws,oX,L9,x9,n9,w9⟩:=oW;have hk:j! 0<1+r7:=by lia
 refine⟨n,scl (1+r7) ws,s9.take aW!,?_,⟨⟨bf,by rw[zoT hk,n9],ac! ?_,?_⟩,ac! ?_⟩,L9.fin hl⟩
 ·simp only[z1H,z72,Mof,z7a,st,_d,_k,_v];rw[zm p1,zm p2,zm p3,zm p4,zm p5,zm p8,zm oS,zm oV,zm oX];have c:zt (zQ (zd 4)) (F! 7) (yh 1) zU (fS! 1 u!) U s9=.ok (bN! (scl (1+r7) ws)) s9:=by
   rw[ue,uH,jZ];rw[show zd 4 U s9=gE! s9 from rfl];simp only[Rb,L9.at_];rw[zbP (by
    intro p hp;simp at hp;subst hp;exact L9.at_) rT! (λy=>aP! (y*(1+r7))) ws [] (by
    intro y hy;have mm:=z1u (a:=y) (b:=1+r7) s9 (x9 y hy).1 (_bn (x9 y hy).2 bB) (by lia) (kL (by lia));simp[U,mm]) (by unfold Sz at bf;simp[cap];lia)];simp[scl,_N]
  rw[z3z,yf,yF c,z2a];simp only[Rb];exact zeN
 ·obtain⟨y,hy,rfl⟩:=gB!;exact _be (x9 y hy).1 (by lia)
 ·obtain⟨y,hy,h0⟩:=w9;exact⟨y*(1+r7),(zoY hk).mpr hy,Int.mul_pos h0 hk⟩
 ·obtain⟨y,hy,rfl⟩:=gB!;have b:=x9 y hy;have m1:y*(1+r7)<=fK!*(1+r7):=_ci b.2 (by lia);have:j! 2 ^ 104=20282409603651670423947251286016:=by decide
  lia
instance (A:Tb):Decidable (z0R A):=by unfold z0R;infer_instance
noncomputable def okD:Nat->eB! D
 | _,.non=>true | _,.bl _=>true | _,.int _=>true | _,.str x=>PyData.strOk x | k+1,.tup xs=>oj! (okD k) | k+1,.lst xs=>oj! (okD k) | _,_=>false
theorem ztY: ∀(xs:List D),(∀x∈xs,l8! (z8e x)/\my! (z8e x)<=2*k+3/\PyData.eqv (z8e x) (z8e x)=d!)->PyData.canLayAll0 pb!=d!/\PyData.depthAll pb!<=2*k+4/\PyData.eqvAll pb! pb!=d!
 | [],_=>⟨rfl,by simp[tPn,PyData.depthAll],by simp[tPn,PyData.eqvAll]⟩ | x::xs,h=>by
  have h1:=h x (by simp);have h2:=ztY xs (cN! (h y (by simp[hy])));refine⟨by simp[tPc,PyData.canLayAll0,h1.1,h2.1],?_,by simp[tPc,PyData.eqvAll,h1.2.2,h2.2.2]⟩;simp only[tPc,PyData.depthAll];lia
theorem zij:∀(k:Nat)(d:D),okD k d=d!->l8! (z8e d)/\my! (z8e d)<=2*k+3/\PyData.eqv (z8e d) (z8e d)=d!:=by
 intro k;induction k with
 | zero=>
  intro d h;cases d with
  | str x=>change PyData.strOk x=d! at h;change l8! a1!/\my! a1!<=_/\PyData.eqv a1! a1!=d!;simp[PyData.canLay0,PyData.depth,PyData.eqv,h] | non=>change l8! ab!/\my! ab!<=_/\PyData.eqv ab! ab!=d!;simp[PyData.canLay0,PyData.depth,PyData.eqv] | bl b=>change l8! lq!/\my! lq!<=_/\PyData.eqv lq! lq!=d!;simp[PyData.canLay0,PyData.depth,PyData.eqv] | int i=>change l8! U!/\my! U!<=_/\PyData.eqv U! U!=d!;simp[PyData.canLay0,PyData.depth,PyData.eqv] | _=>exact nomatch (h:q!=d!)
 | succ k ih=>
  intro d h;cases d with
  | str x=>change PyData.strOk x=d! at h;change l8! a1!/\my! a1!<=_/\PyData.eqv a1! a1!=d!;simp[PyData.canLay0,PyData.depth,PyData.eqv,h] | non=>change l8! ab!/\my! ab!<=_/\PyData.eqv ab! ab!=d!;simp[PyData.canLay0,PyData.depth,PyData.eqv] | bl b=>change l8! lq!/\my! lq!<=_/\PyData.eqv lq! lq!=d!;simp[PyData.canLay0,PyData.depth,PyData.eqv] | int i=>change l8! U!/\my! U!<=_/\PyData.eqv U! U!=d!;simp[PyData.canLay0,PyData.depth,PyData.eqv] | tup xs=>
   have h:=_Q.mp h;have q:=ztY xs (ac! (ih x (h x hx)));refine⟨by simp only[zr1,PyData.canLay0,q.1],?_,by simp only[zr1,PyData.eqv,q.2.2]⟩;simp only[zr1,PyData.depth];lia | lst xs=>
   have h:=_Q.mp h;have q:=ztY xs (ac! (ih x (h x hx)));refine⟨by simp only[zqY,PyData.canLay0,q.1],?_,by simp only[zqY,PyData.eqv,q.2.2]⟩;simp only[zqY,PyData.depth];lia | _=>exact nomatch (h:q!=d!)
theorem z8K(h:okD k d=d!)(hk:k<=10):zjq d=d!:=by
 have q:=zij k d h;simp only[zjq,SeqAt.shaped,q.1];simp;lia
theorem eq_self(h:okD k d=d!)(hk:k<=10)(s:Sto):dEq d d s=cA!:=by
 have q:=zij k d h;have o:=z8K h hk;rw[dEq,bS! o o];simp only[eqD,q.2.2]
theorem ne_self(h:okD k d=d!)(hk:k<=10)(s:Sto):dNe d d s=c6!:=by
 have o:=z8K h hk;rw[dNe,bS! o o];simp only[eqD,(zij k d h).2.2];rfl
theorem znq(k:Nat)(ns:h!):(iL ns).all (okD k)=d!:=by
 rw[_Q];intro x hx;obtain⟨n,_,rfl⟩:=gB!;cases k<;>rfl
theorem zmv(k:Nat)(ns:h!):okD (k+1) (rD ns)=d!:=znq k ns
theorem ne_nil(h:okD k bx!=d!)(hk:k<=10)(s:Sto):dNe bx! (X! []) s=cb! (!xs.isEmpty):=by
 have o:=z8K h hk;have o2:zjq (X! [])=d!:=z8K (k:=1) rfl (by decide);rw[dNe,bS! o o2];cases xs with
 | nil=>simp[eqD,zqY,zr1,tPn,tPc,PyData.eqv,PyData.eqvAll] | cons x xs=>simp[eqD,zqY,zr1,tPn,tPc,PyData.eqv,PyData.eqvAll]
end Pg
namespace Pn
open L2 Dd Pm Pg
noncomputable def isI:eB! D
 | .int _=>true | _=>false
def okI:eB! D
 | .int i=>jv! 0 i | _=>false
theorem z84(h:ha! d)(s:Sto):vF [d] s=cb! (isI d):=by cases d<;>first | rfl | cases h
theorem jE(h:ha! d)(s:Sto):yY [d] s=cb! (isI d):=by cases d<;>first | rfl | cases h
def Kd:D->g!
 | .tup xs=>∀x∈xs,ha! x | .scr _=>False | d=>ha! d
theorem Kd.ty(h:Kd d):ha! d:=by cases d<;>first | rfl | exact h | exact b7! h
theorem all_ints:∀{xs:List D},sj!=d!->∃v:List Int,xs=b6!
 | [],_=>cl! [] | x::xs,h=>by
  rw[_cm,_S]at h;obtain⟨v,rfl⟩:=all_ints h.2;cases x with
  | int i=>exact cl! (i::v) | _=>simp[isI]at h
theorem zlM:∀{v w:List Int},b6!=iL w->v=w
 | [],[],_=>rfl | [],_::_,h=>by cases h | _::_,[],h=>by cases h | a::v,b::w,h=>by
  simp only[iL,_u,_cA,D.int.injEq]at h;rw[h.1,zlM (v:=v) (w:=w) h.2]
theorem zja(v:h!):(b6!).all okI=v.all λx=>jv! 0 x:=by
 simp only[iL,List.all_map];rfl
theorem zab{α:bD!}(l:et!)(p:eB! α)(s:Sto):zgq [X! (ot! (λx=>D.bl (p x)))] s=cb! (l.all p):=by simp[zgq,zY,(show oq! (ot! (λx=>D.bl (p x)))=b! (ot! p) from by
  rw[show (ot! (λx=>D.bl (p x)))=(ot! p).map D.bl by rw[_ag];rfl];exact zbk _)]
theorem z3e(hk:∀x∈xs,ha! x) (s:Sto) (h:dv! w!):zN [af!,c! w!] s=cb! sj!:=by
 have st:zv [iW!,"many"] [af!,c! w!]=[b! af!,e! w!]:=rfl;simp only[zN,Mof,qO,st,_d,_k,_v];rw[zm (ρ':=[b! af!,e! w!]) (s':=s) (by simp[zj8,yC,zY])];simp only[z2j,yf,yj,zq,zL,(comp_map (fi:=cW!) (mp:=[a!]) (fg:=yh 0) (fe:=a8! vF) (ρ:=[b! af!,e! w!]) (s:=s) (λx=>x) (λx=>D.bl (isI x)) (λx=>[fd!]) xs (by simp) (λa _=>by rfl) (λa ha=>by simp[z84 (hk a ha)]) (by simp[cap];lia)),Rb,zab]
theorem z4G(s:Sto):∀(xs all:List D)(z:Option D),(∀x∈xs,ha! x)-> aF! (oj! okI) (∃z',yT [] all (eO! (yh 1 d ρ s) (yL ρ' s')) xs [t,z] s=aN! [t,z']) (yT [] all (eO! (yh 1 d ρ s) (yL ρ' s')) xs [t,z] s=j8! eN!)
 | [],all,z,_=>by simp[yT,okG] | x::xs,all,z,hk=>by
  have step:yL [t,fd!] s=aF! (okI x) (aN! [t,fd!]) (j8! eN!):=by
   have w:=jE (hk x (by simp)) s;have e1:qT (tOf (jj! yY)) [t,fd!] s=k! (! isI x):=by rw[vG,vw,cl3 lp! w];rfl
   have no:isI x=q!->yL [t,fd!] s=j8! eN!:=λh=>by rw[yL,kI,z2u,e1,h];rfl
   cases x with
   | int i=>
    have e2:tOf (dz! dLt 1 A!) [t,cq!] s=k! (eu! i 0):=by rw[vw,op3 (r:=fo! (i<0)) bn! rfl rfl];rfl
    rw[yL,kI,z2u,e1,Rb,_o (by show ¬ (!true)=d!;decide),e2,Rb,show okI U!=jv! 0 i from rfl];by_cases h0:i<0;·rw[_af h0,_U (Int.not_le.mpr h0)];rfl
    ·rw[_U h0,_af (_cj.mp h0)];rfl | _=>rw[no rfl];rfl
  simp only[yT,_g (show okG [] all s from by intro p hp;cases hp),vX,Rb,_L,_F,step];cases h:okI x with
  | true=>
   simp only[_v,Rb,_cm,h,Bool.true_and];exact (z4G (t:=t) s xs all fd! (cN! (hk y (by simp[hy])))) | false=>simp[h]
theorem znQ{xs:x!}(h:oj! okI=d!):sj!=d!:=by
 rw[_Q]at h ⊢;intro x hx;have:=h x hx;cases x<;>simp_all[okI,isI]
theorem zub{f g:FE}{ρ:Ev}{s:Sto}{a b:Bool}(h1:ay!=cb! a)(h2:g ρ s=cb! b):zcS f g ρ s=cb! (a&&b):=by
 rw[z9t,h1,Rb];cases a with
 | true=>exact h2 | false=>rfl
theorem z3g{d:D}{s:Sto}{n mn mx:Int}{z w:Bool}(a1:xa [d] s=cb! z)(a2:z=d!->yC [d] s=v! n)(a3:z=d!->zN [d,c! n] s=cb! w)(a4:z=d!->w=d!->vY [d] s=v! mx/\z6t [d] s=v! mn):xl [d] s=cb! (z&&(w&&(jv! 0 mn&&eu! 0 mx))):=by
 have st:zv c5! [d]=cX!:=rfl;have e1:tOf (a8! xa) cX! s=k! z:=by rw[vw,cl3 lp! a1];rfl
 have q1:∀b,fOr (eR! (a8! xa)) (eR! (da! zN ch!)) cX! s=k! b->z4t cX! s=aF! b (j8! eN!) (aN! cX!):=λb h=>by rw[z4t,kI,h];rfl
 simp only[xl,Mof,z6z,st,_d,_k,_v];cases z with
 | false=>rw[vV (q1 d! (by rw[z2u,vG,e1];rfl))];rfl | true=>
  have e2:tOf (da! zN ch!) cX! s=k! w:=by rw[vw,cl3 (jf! bn! (cl3 lp! (a2 rfl)) rfl) (a3 rfl)];rfl
  have o:=q1 (!w) (by rw[z2u,vG,e1,Rb,Rb,_o (by decide),vG,e2];rfl);cases w with
  | false=>rw[vV o];rfl | true=>
   obtain⟨b1,b2⟩:=a4 rfl rfl;have g1:eOp dGe (a8! z6t) A! cX! s=fo! (0<=mn):=g7! (cl3 lp! b2) rfl;have g2:eOp dGt (a8! vY) A! cX! s=fo! (0<mx):=g7! (cl3 lp! b1) rfl;rw[zm o,z95,yf,zub g1 g2];rfl
theorem zvO{xs:x!}{s:Sto}{b:Bool}(h:zb0 d! (c! (j! w!)) (n! [c! 2,c! 3,c! 4]) s=cb! b):xz (F! af!) s=aF! b (j8! eN!) (aN! (F! af!)):=by
 have e1:qT (tOf (k6! u!)) (F! af!) s=k! q!:=by rw[vG,vw,zfW,bn!];rfl
 have e2:tOf (eOp (zb0 d!) ch! (vj (zb (E! 2) (cc! (E! 3) (E! 4))))) (F! af!) s=k! b:=by rw[vw,op3 (cl3 lp! rfl) (zfA (jf! rfl rfl (sx! rfl)) (by decide)) h];rfl
 rw[xz,kI,z2u,e1,Rb,_o (by decide),e2];cases b<;>rfl
theorem zo2(h:gIs c2! d s=c6!):xl [d] s=c6!/\yG [d] s=c6!:=by
 constructor
 ·refine z3g (n:=0) (w:=false) (mn:=0) (mx:=0) (z:=false) ?_ (λz=>nomatch z) (λz=>nomatch z) λz=>nomatch z;simp[xa,Mof,jl,zv,h]
 ·have st:zv [dP!,b8!] [d]=F! d:=rfl;have q:xz (F! d) s=j8! eN!:=by
   have e1:qT (tOf (k6! u!)) (F! d) s=ky!:=by rw[vG,vw,zfW,bn!,Rb,h];rfl
   rw[xz,kI,z2u,e1];rfl
  simp only[yG,Mof,uL,st,_d,_k,_v];rw[vV q]
theorem zk5(hd:Kd d) (s:Sto):(∃n v,d=O!/\aQ!/\xl [d] s=cA!/\yG [d] s=cA!)\/(xl [d] s=c6!/\yG [d] s=c6!):=by cases d with
 | tup xs=>
  have hk:∀x∈xs,ha! x:=hd;by_cases hs:2<=w!/\w!<=4
  ·have h1:=z4k xs s hs;have h2:=z3e hk s (by lia);have gl:yC [af!] s=v! w!:=by rfl
   have lf:xz (F! af!) s=aN! (F! af!):=by
    have:zb0 d! (c! (j! w!)) (n! [c! 2,c! 3,c! 4]) s=c6!:=by
     have hc:w!=2\/w!=3\/w!=4:=by lia
     rcases hc with hc | hc | hc<;>rw[hc]<;>rfl
    exact zvO iV!
   have lp:=z4G (t:=b! af!) s xs xs none hk;have st:zv [dP!,b8!] [af!]=F! af!:=rfl;have lw:yG [af!] s=(match zy ww vU (F! af!) s with | .ok (.rt d) s'=>bz! d | .ok (.nx _) s'=>bz! aA! | _=>.no):=by
    simp only[yG,Mof,uL,st,_d,_k,_v];rw[zm lf]<;>(generalize zy ww vU (F! af!) s=r;cases r with
     | ok fl _=>cases fl<;>rfl | _=>rfl)
   have q3:ww (F! af!) s=yT [] xs (eO! (yh 1 d ρ s) (yL ρ' s')) xs (F! af!) s:=by
    rw[ww,jP];rfl
   have pg:∀b,(∀v:List Int,xs=b6!->(jv! 0 (minL v)&&eu! 0 jl!)=b)->(sj!=q!->b=q!)->xl [af!] s=cb! b:=λb hb lA=>by cases hi:sj! with
    | false=>
     rw[hi]at h2;rw[lA hi];exact z3g (mn:=0) (mx:=0) h1 (bk! gl) (bk! h2) λ_ z=>nomatch z | true=>
     rw[hi]at h2;obtain⟨v,rfl⟩:=all_ints hi;have ne:a4! v:=by rintro rfl;exact bO! hs (by decide)
     have g1:=z9c s ne;have g2:=zm0 s ne;have hb:=hb v rfl;exact aJ! (z3g h1 (bk! gl) (bk! h2) λ_ _=>as! g1 g2) (by rw[<- hb];rfl)
   cases ho:oj! okI with
   | false=>
    right;rw[ho,_o (by decide)]at lp;refine⟨pg q! (λv hv=>?_) (bk! rfl),?_⟩
    ·subst hv;rw[zja]at ho;rw[Bool.and_eq_false_iff];left;rw[decide_eq_false_iff_not];intro z;have:v.all (λx=>jv! 0 x)=d!:=by
      rw[_Q];intro x hx;have:=minL_le (xs:=v) x hx;exact _af (by lia)
     rw[this]at ho;cases ho
    ·rw[lw,vV (by rw[q3];exact lp)] | true=>
    rw[ho,gD!]at lp;obtain⟨z',lp⟩:=lp;obtain⟨v,rfl⟩:=all_ints (znQ ho);have ne:a4! v:=by rintro rfl;exact bO! hs (by decide)
    rw[zja,_Q]at ho;have nn:∀x∈v,0<=x:=ac! (_dk (ho x hx));have g1:=z9c s ne;have lB:yG [n! b6!] s=fo! (0<jl!):=by
     rw[lw,zm (by rw[q3];exact lp)];have key:∀d:D,vY [d] s=v! jl!->vU [i!,z'] s=j8! (.bl (eu! 0 jl!)):=λd a=>by simp[a]
     rw[key _ g1]
    by_cases mx:0<jl!
    ·left;have hv:Lot z! v:=by refine ck! ?_ ?_ nn ⟨jl!,kW! ne,mx⟩<;>first | rfl | (simp at hs;lia) | skip
     refine⟨z!,v,rfl,hv,zeP hv s,?_⟩;rw[lB,_af mx]
    ·right;refine⟨pg q! (λw hw=>?_) (bk! rfl),?_⟩
     ·have:v=w:=zlM hw;subst this;rw[_U mx,_cZ]
     ·rw[lB,_U mx]
  ·right;constructor;·exact z3g (n:=0) (w:=false) (mn:=0) (mx:=0) (z:=false) (s:=s) (d:=af!) (a2:=λz=>nomatch z) (a3:=λz=>nomatch z) (a4:=λz=>nomatch z) (by
     by_cases a:j! 2<=w!
     ·have:¬ j! w!<=4:=by lia
      simp[xa,Mof,jl,zv,zj8,yC,zY,a,this]
     ·simp[xa,Mof,jl,zv,zj8,yC,zY,a])
   ·have gl:yC [af!] s=v! w!:=by rfl
    have q:zb0 d! (c! (j! w!)) (n! [c! 2,c! 3,c! 4]) s=cA!:=by
     have h2:w!≠2:=by lia
     have h3:w!≠3:=by lia
     have h4:w!≠4:=by lia
     generalize xs.length=m at h2 h3 h4;have g2:¬ j! 2=m:=by lia
     have g3:¬ j! 3=m:=by lia
     have g4:¬ j! 4=m:=by lia
     have e:inV (c! (j! m)) [c! 2,c! 3,c! 4]=q!:=by
      show (j! 2==m||(j! 3==m||(j! 4==m||q!)))=q!;rw[_bK.mpr g2,_bK.mpr g3,_bK.mpr g4];rfl
     simp[zb0,zbE,zY,z2v,e]
    have st:zv [dP!,b8!] [af!]=F! af!:=rfl;simp only[yG,Mof,uL,st,_d,_k,_v];rw[vV (zvO q)] | scr _=>exact hd.elim | _=>
  right;have hd:=hd.ty;first
  | (exfalso;simp[tyD]at hd;done) | exact zo2 rfl
theorem z2w:LeM yP vy:=mz! (r8! LeS.fNo)
theorem ziO:LeM z61 z68:=mz! (LeS.seq (ru! z2w) (rs! jO! jO! jO!))
theorem z3r(h:xl [d] s=c6!):vy [d] s=.ex hj! s:=by
 have st:zv c5! [d]=cX!:=rfl;simp[vy,kU,z4H,st,h]
theorem zi3(h:ay!=.ex c s'):zy f g ρ s=.ex c s':=by rw[zlv,h,R.bind_ex]
theorem zdx(h:ay!=.ex c s'):wq f ρ s=.ex c s':=by rw[z1s,h,R.bind_ex]
theorem zo4(k:Nat)(b:Bool)(s:Sto):zJ (k+1) [.bl b,.bl b] s=cA!:=by cases b<;>rfl
theorem same_int(k:Nat)(i:Int)(s:Sto):zJ (k+1) [U!,U!] s=cA!:=by
 have st:zv [gs!,kZ!] [aP! i,U!]=[cq!,cq!]:=rfl;simp only[zJ,Mof,jO,st,_d,_k,_v];rw[zm (show qN (zJ k) [cq!,cq!] s=aN! [cq!,cq!] from rfl),zm (show z0m (zJ k) [cq!,cq!] s=aN! [cq!,cq!] from rfl), z3b,yf,zub (cl3 lp! (jE (d:=U!) rfl s)) (op3 bn! bn! (show dEq U! U! s=cA! by rw[zbK,_af rfl]))];rfl
theorem same_str(k:Nat) (hx:PyData.strOk x=d!) (s:Sto):zJ (k+1) [a1!,a1!] s=cA!:=by
 have st:zv [gs!,kZ!] [D.str x,a1!]=h8! a1! a1!:=rfl;simp only[zJ,Mof,jO,st,_d,_k,_v];rw[zm (show qN (zJ k) (h8! a1! a1!) s=aN! (h8! a1! a1!) from rfl), vV (d:=eQ!) (s':=s) (aJ! (show z0m (zJ k) (h8! a1! a1!) s=z0p (zJ k) (h8! a1! a1!) s from rfl) (by
   rw[z0p,yf,zub (op3 bn! bn! (eq_self (k:=0) (d:=a1!) hx (by decide) s)) (show eOp dEq (qa! u!) (qa! r!) (h8! a1! a1!) s=cA! from rfl)];rfl))]
def uJ:Nat->D->g!
 | _,.bl _=>True | _,.int _=>True | _,.str x=>PyData.strOk x=d! | k+1,.tup xs=>jg!/\∀x∈xs,uJ k x | k+1,.lst xs=>jg!/\∀x∈xs,uJ k x | _,_=>False
theorem zb9:∀xs:List D,z4Q xs xs=n7! (λx=>gT! [x,x])
 | []=>rfl | x::xs=>by rw[z4Q,zb9 xs];rfl
theorem zeM(hl:jg!) (h:∀x∈xs,zJ k [x,x] s=cA!) (d:D) (hd:d=af!\/d=bx!):zJ (k+1) [d,d] s=cA!:=by
 have st:zv [gs!,kZ!] [d,d]=[i!,i!]:=rfl;have g:z9e s d=b! (xs,[]):=by rcases hd with rfl | rfl<;>rfl
 have ga:=zab xs (bk! d!) s;have ga:zgq [X! (n7! (λ_=>D.bl d!))] s=cA!:=by rw[ga];simp
 have gl:yC [d] s=v! w!:=by rcases hd with rfl | rfl<;>rfl
 have q2:z3I (zJ k) [i!,i!] s=aN! [i!,i!]:=by rcases hd with rfl | rfl<;>rfl
 simp only[zJ,Mof,jO,st,_d,_k,_v];rw[vV (by
  rw[qN,kI];have t:tOf (ztL en! c2! r!) [i!,i!] s=ky!:=by rcases hd with rfl | rfl<;>rfl
  rw[t,Rb,gD!,zm q2,(show z0a (zJ k) [i!,i!] s=j8! eQ! from by simp only[z0a,yf,z9t,yO,yj,zq,zL,(comp_map (fi:=z5b (hY! 0 1)) (mp:=jp!) (fg:=yS 0 1) (fe:=cM! (zJ k)) (ρ:=[i!,i!]) (s:=s) (λx=>gT! [x,x]) (λx=>D.bl d!) (λx=>h8! x x) xs (by simp[g,zb9]) (λa _=>by rfl) (λa ha=>by simp[h a ha]) hl),Rb,ga,ym,_c,_e,gl,zbK,_dj])])]
theorem z74:∀(k:Nat)(d:D)(s:Sto),uJ k d->zJ (k+1) [d,d] s=cA!
 | k,.bl b,s,_=>zo4 k b s | k,.int i,s,_=>same_int k i s | k,.str x,s,h=>same_str k (by unfold uJ at h;exact h) s | k+1,.tup xs,s,h=>zeM h.1 (ac! (z74 k x s (h.2 x hx))) _ c7! | k+1,.lst xs,s,h=>zeM h.1 (ac! (z74 k x s (h.2 x hx))) _ (T! rfl) | 0,.tup xs,s,h=>by cases h | 0,.lst xs,s,h=>by cases h | k,.non,s,h=>by simp[uJ]at h | k,.dct,s,h=>by simp[uJ]at h | k,.loc _,s,h=>by simp[uJ]at h | k,.dlo _,s,h=>by simp[uJ]at h | k,.fn _,s,h=>by simp[uJ]at h | k,.exc _,s,h=>by simp[uJ]at h | k,.scr _,s,h=>by simp[uJ]at h
theorem uJ.up:∀{k:Nat}{d:D},uJ k d->uJ (k+1) d
 | _,.bl _,_=>by simp[uJ] | _,.int _,_=>by simp[uJ] | _,.str x,h=>by unfold uJ at h ⊢;exact h | 0,.tup xs,h=>by cases h | 0,.lst xs,h=>by cases h | k+1,.tup xs,h=>⟨h.1,ac! (h.2 x hx).up⟩ | k+1,.lst xs,h=>⟨h.1,ac! (h.2 x hx).up⟩ | k,.non,h=>by simp[uJ]at h | k,.dct,h=>by simp[uJ]at h | k,.loc _,h=>by simp[uJ]at h | k,.dlo _,h=>by simp[uJ]at h | k,.fn _,h=>by simp[uJ]at h | k,.exc _,h=>by simp[uJ]at h | k,.scr _,h=>by simp[uJ]at h
theorem zlz{k:Nat} (s:Sto)(h:uJ 3 d):uz [d,d] s=cA!:=z74 4 d s h.up
theorem zbv(s:Sto)(x y:fN!):∀(k:Nat)(a b:Int),0<=a->0<=b->pt!<k-> vk (ev! 3 A!) z1w k [x,e! a,y,bc!] s=aN! [x,e! (cg a b),y,e! 0]
 | 0,a,b,_,_,h=>by lia | k+1,a,b,ha,hb,h=>by
  rw[vk];by_cases e:b=0
  ·subst e;simp[zis ha]
  ·have b0:0<b:=by lia
   have h2:=_bm a b0;have e1:tOf (dz! dNe 3 A!) [x,e! a,y,bc!] s=ky!:=by simp[e]
   rw[e1,Rb,(show z1w [x,e! a,y,bc!] s=aN! [x,bc!,y,e! (a % b)] from by simp[(z6P (a:=a) s b0)])];show vk _ _ k _ s=_;rw[(zbv s x y k b (a % b) hb (_a8 a (show b≠0 by lia)) (by lia)),zhQ b0]
theorem z9d(s:Sto)(x:fN!):∀(v:List Int)(a:Int)(all:List D)(z z2:Option D),0<=a->(∀x∈v,0<=x)->∃z' fJ,yT [] all (eO! (yh 2 d ρ s) (zy z18 z0T ρ' s')) b6! [x,e! a,z,z2] s=aN! [x,e! (o4! a),z',fJ]
 | [],a,all,z,z2,_,_=>⟨z,z2,by simp[yT,okG]⟩ | b::v,a,all,z,z2,ha,hv=>by
  obtain⟨z',fJ,ih⟩:=z9d s x v (cg a b) all bc! (e! 0) (by simp[cg]) λw hw=>hv w (by simp[hw]);refine a3! z' fJ ?_;simp only[iL,_u,yT];rw[_g (by intro p hp;cases hp)];have e2:z0T [x,e! a,bc!,bc!] s=aN! [x,e! (cg a b),bc!,e! 0]:=by exact z3s (zbv s x bc! (pt!+1) a b ha (hv b (by simp)) (by lia)) (by simp)
  rw[vX,Rb];simp only[_L,_F];rw[zm (show z18 [x,e! a,bc!,z2] s=aN! [x,e! a,bc!,bc!] from by rfl),e2];exact ih
theorem zqd(h:aQ!) (s:Sto):z1G [O!] s=v! b5!:=by
 have st:zv [kY!,gs!,b8!,d5!] [O!]=[bo!,a!,a!,a!]:=rfl;obtain⟨z',fJ,lp⟩:=z9d s bo! v 0 b6! a! a! (by lia) f2!;simp only[z1G,Mof,z7k,st,_d,_k,_v];rw[zm (ρ':=fp! O! cu! a!) (s':=s) (by rfl),zm (ρ':=[bo!,e! (o4! 0),z',fJ]) (s':=s) (by exact lp)];rfl
theorem part3{f:FE}{ρ:Ev}{s s1:Sto}{i:Int}(h:ay!=I! U!):yx f ρ s=I! h7!:=by rw[z1i,h,Rb]
theorem sl3{f:FE}{fl fh:FO}{ρ:Ev}{s s1 s2 s3:Sto}{x:D}{lo hi:dm!}{r:R D}(h:ay!=I! x)(h1:fl ρ s1=ba! lo)(h2:fh ρ s2=ge! hi)(h3:dSl x lo hi s3=r):eSl f fl fh ρ s=r:=by rw[zaK,h,Rb,h1,Rb,h2,Rb,h3]
structure Bn(m:Nat)(d:D):g! where
 kd:Kd d
 bd:∀xs i,d=af!->aP! i∈xs->eF!<2 ^ m
theorem Bn.tup{m:Nat}{xs:x!}(h:∀x∈xs,ha! x/\∀i,x=U!->eF!<2 ^ m):Bn m af!:= ⟨ac! (h x hx).1,λys i e hi=>by cases e;exact (h _ hi).2 i rfl⟩
abbrev Itm(N:Nat)(x:D):g!:=ha! x/\∀i,x=U!->eF!<N
theorem Itm.i{N:Nat}{z:Int}(h:z.natAbs<N):Itm N (c! z):=g4! (λi e=>by cases e;exact h)
theorem Itm.o{N:Nat}{x:D}(h:ha! x)(hn:isI x=q!):Itm N x:=⟨h,λi e=>by cases e;cases hn⟩
theorem faN{P:D->g!}:∀x∈([]:x!),P x:=λ_ h=>nomatch h
theorem faC{P:D->g!}{a:D}{l:x!}(h:P a)(k:∀x∈l,P x):∀x∈a::l,P x:=_cr.mpr ⟨h,k⟩
theorem faA{P:D->g!}{a l:x!}(h:∀x∈a,P x)(k:∀x∈l,P x):∀x∈a++l,P x:=λx q=>m1! q (h x) (k x)
theorem nb9{x:Int}{N:Nat}(h:iX!+1<N):aZ! (x+1)<N/\aZ! (x-1)<N/\aZ! (0-x)<N:=by lia
theorem zpk{n:Nat}(h:n<=99):n<=cap:=_G h (by decide)
def zwD:eB! D
 | .tup _=>true | _=>false
theorem Bn.o{m:Nat}{d:D}(h:Kd d)(hn:zwD d=q!):Bn m d:=⟨h,λxs i e _=>by cases e;cases hn⟩
theorem Bn.row(h:∀x∈v,de! m):Bn m O!:=iY! (ac! (by
 obtain⟨y,hy,rfl⟩:=gB!;exact g4! (λi e=>by cases e;exact h _ hy)))
theorem Bn.other(h:Kd d)(hn:∀xs,d≠af!):Bn m d:=⟨h,λxs i e _=>bO! e (hn xs)⟩
noncomputable def zgr:x!:=[aA!,eQ!,eN!,c! (-1),cu!,c! 7,c! fK!,aD! "",aD! "1:0",n! [],n! [cu!,cu!],n! [c! 1],X! (cU! 1 0),.dct,n! [n! (cU! 1 0),n! (cU! 0 1)],n! [eQ!,c! 2]]
inductive TkD(iJ:R D)(P:D->g!)(s:Sto)(l:Nat):g! | mk (d:D)(s':Sto)(e:iJ=bz! d)(b:P d)(c:vK s s' l)
theorem zrs(h:Pot s l):TkD (kB [db!] s) (· ∈ zgr) s l:=by
 have st:zv [dy!,hp!] [db!]=F! db!:=rfl;have q1:z4R [J!,a!] s=aN! [J!,aL! [aA!,eQ!,eN!,c! (-1),cu!,c! 7,c! fK!,aD! "",aD! "1:0",n! [],n! [cu!,cu!],n! [c! 1],X! (cU! 1 0),.dct]]:=by rfl
 obtain⟨r,s',e,a,b,dr⟩:=vC (f:=u!) (g:=E! 16) (far:=16) (ρ:=[J!,aL! [aA!,eQ!,eN!,c! (-1),cu!,c! 7,c! fK!,aD! "",aD! "1:0",n! [],n! [cu!,cu!],n! [c! 1],X! (cU! 1 0),.dct]]) h (by decide) (kL (by decide)) (by rfl) (by rfl);have hr:r.toNat<zgr.length:=by simp[zgr];lia
 have ix:=wO (xs:=zgr) (d:=zgr[r.toNat]) (s:=s') a (by simp[hr]);refine⟨zgr[r.toNat],s',?_,_J hr,dr⟩;simp only[kB,Mof,z7R,st,_d,_k,_v];rw[zm q1,z4A,yf,yO];have c:eOp xf r! (qg (cc! (dL! (dL! ah! A!) (dL! A! ah!)) (dL! (eC eQ!) (E! 2)))) [J!,aL! [aA!,eQ!,eN!,c! (-1),cu!,c! 7,c! fK!,aD! "",aD! "1:0",n! [],n! [cu!,cu!],n! [c! 1],X! (cU! 1 0),.dct]] s=bw! zgr:=by rfl
 rw[c,Rb,e,Rb,ix,Rb]
theorem zmP(h:d∈zgr)(hm:2<=m):Bn m d:=by
 have h2:2 ^ 2<=2 ^ m:=_B (by decide) hm;exact (c4! lk! lk! (c4! lk! lk! (c4! lk! lk! (c4! lk! lk! (c4! lk! (iY! faN) (c4! (iY! (c4! (Itm.i (by lia)) (Itm.i (by lia)) faN)) (iY! (m6! (Itm.i (by lia)))) (c4! lk! lk! (c4! (iY! (c4! (Itm.o rfl rfl) (Itm.o rfl rfl) faN)) (iY! (c4! (Itm.o rfl rfl) (Itm.i (by lia)) faN)) faN))))))):∀x∈zgr,Bn m x) _ h
theorem zoL{v:h!} {k:Nat} (hk:k<z!) (s:Sto):∃y∈v,c9! O! (j! k-1) s=v! y:=by cases k with
 | zero=>
  simp only[dIx,zY,atI,(show ixN (t! b6!) (eM! 0-1)=b! (z!-1) from by
   unfold ixN;simp;lia),_O];simp[(show z!-1<z! from by lia)] | succ k=>
  have hl:k<z!:=by lia
  refine⟨v[k],_J hl,?_⟩;rw[show (aa! (k+1)-1)=k by lia];exact (z98 (xs:=b6!) (j:=k) (d:=c! (v[k])) s (by simp[hl]))
theorem zj7(h:Pot s l) (hv:∀x∈v,de! m) (hm:104<=m) (h1:1<=z!) (h4:z!<=4):TkD (uu [db!,O!] s) (Bn (m+1)) s l:=by
 have st:zv [dy!,"_law_row",e3!,q6!,hp!] [db!,O!]=j5! J! bo!:=rfl;have gl:∀s,yC [O!] s=v! z!:=λs=>by simp[yC,zY]
 obtain⟨r1,s1,e1,a1,b1,d1⟩:=vC (f:=u!) (g:=h9!) (far:=v.length) (ρ:=j5! J! bo!) h (by lia) (kL (by lia)) (by rfl) (by simp only[yj,zq,zL,ym,_e,_c,Rb,gl]);obtain⟨k,rfl⟩:∃k:Nat,r1=k:=⟨r1.toNat,by lia⟩;have hk:k<z!:=by lia
 have q1:z0k (j5! J! bo!) s=gH! [J!,bo!,bh!,a!,a!]:=by rw[z0k,zR,e1];rfl
 have oY:∀s,c9! O! k s=v! (v[k]):=λs=>z98 (xs:=b6!) (j:=k) (d:=c! (v[k])) s (by simp[hk]);obtain⟨y,hy,oZ⟩:=zoL hk s1;have bp:∀{i:Int},eF!<2 ^ m->eF!+1<2 ^ (m+1):=λ{i} hi=>by
  have:2 ^ (m+1)=2 ^ m*2:=_dU ..;have:0<2 ^ m:=Nat.pow_pos (by decide);lia
 have hx:=bp (hv _ (_J hk));let L10:x!:=[c! (v[k]+1),c! (v[k]-1),c! (0-v[k]),cu!,eQ!,aA!,aD! "1",n! [c! 1],c! fK!,c! y];have hL:∀e∈L10,Itm (2 ^ (m+1)) e:=by
  have iH:aZ! (j! fK!)<2 ^ (m+1):=_j (by decide:aZ! (j! fK!)<2 ^ 105) (_B (by decide) (by lia));have o0:=bp (hv _ hy);exact c4! (.i (nb9 hx).1) (.i (nb9 hx).2.1) (c4! (.i (nb9 hx).2.2) (.i (Nat.pow_pos (by decide))) (c4! (.o rfl rfl) (.o rfl rfl) (c4! (.o rfl rfl) (.o rfl rfl) (c4! (.i iH) (.i (Nat.lt_of_succ_lt o0)) faN))))
 have q2:z0u [J!,bo!,bh!,a!,a!] s1=gH! [J!,bo!,bh!,aL! L10,a!]:=by
  have key:∀d:D,c9! d k s1=I! (c! (v[k]))->c9! d (j! k-1) s1=I! (c! y)->z0u [J!,i!,bh!,a!,a!] s1=gH! [J!,i!,bh!,aL! L10,a!]:=λd c1 c2=>by
   have ix:=op3 (f:=r!) (g:=P!) (ρ:=[J!,i!,bh!,a!,a!]) bn! bn! c1;exact zo5 (zlp (jf! (g7! ix rfl) (g7! ix rfl) (jf! (op3 rfl ix rfl) rfl (jf! rfl rfl (jf! rfl (zfA (sx! rfl) (by decide)) (jf! (g7! rfl (zpN s1)) (op3 bn! (g7! bn! rfl) c2) rfl))))) (by show 10<=cap;decide))
  exact key _ (oY s1) oZ
 obtain⟨r2,s2,e2,a2,b2,d2⟩:=vC (f:=u!) (g:=E! 10) (far:=10) (ρ:=[J!,bo!,bh!,aL! L10,a!]) d1.pot (by decide) (kL (by decide)) (by rfl) (by rfl);have lC:r2.toNat<L10.length:=by show r2.toNat<10;lia
 have lD:=wO (xs:=L10) (d:=L10[r2.toNat]) (s:=s2) a2 (_b lC);have he:=hL _ (_J lC);generalize L10[r2.toNat]=e at lD he;have q3:z05 [J!,bo!,bh!,aL! L10,a!] s1=H! [J!,bo!,bh!,l!,a!] s2:=by
  rw[z05,zR,yO];simp only[ym,_e,_c,Rb];rw[e2,Rb,lD];rfl
 have sk:∀s,dSl O! a! (b! (j! k)) s=a7! ((b6!).take k):=λs=>z2p _ _ _;have sd:∀s,dSl O! (b! (j! k)) a! s=a7! ((b6!).drop k):=λs=>z2x _ _ _;have lE:∀s,dSl O! (b! (j! k+1)) a! s=a7! ((b6!).drop (k+1)):=λs=>z2x b6! (k+1) s;have lv:t! b6!=z!:=by simp
 generalize hT:(b6!).take k=T at sk;generalize hU:(b6!).drop k=U at sd;generalize hW:(b6!).drop (k+1)=W at lE;have lT:bt!<=4:=by rw[<- hT,_bE];lia
 have lU:U.length<=4:=by rw[<- hU,_ay];lia
 have lW:W.length<=4:=by rw[<- hW,_ay];lia
 have cv:∀x∈b6!,Itm (2 ^ (m+1)) x:=ac! (by
  obtain⟨z,hz,rfl⟩:=gB!;exact .i (by have:=bp (hv _ hz);lia))
 have iT:∀x∈T,Itm (2 ^ (m+1)) x:=ac! (cv x (_T (hT ▸ hx)));have iU:∀x∈U,Itm (2 ^ (m+1)) x:=ac! (cv x (_aF (hU ▸ hx)));have iW:∀x∈W,Itm (2 ^ (m+1)) x:=ac! (cv x (_aF (hW ▸ hx)));obtain⟨o,s3,e3,ho,d3⟩:=zrs (l:=l) (d1.trans d2).pot;let dO:x!:=[n! (T++[e]++W),n! (T++[e]++W),n! (T++W),bN! v,n! (T++[cu!]++U),n! (b6!).reverse,n! (b6!++b6!),n! (l3! cu!),o,n! [O!]];have q5:z0o [J!,bo!,bh!,l!,aL! [n! (T++[e]++W),n! (T++[e]++W),n! (T++W),bN! v]] s2=H! [J!,bo!,bh!,l!,aL! dO] s3:=by
  have c1:bt!+1<=cap:=zpk (by lia);have c2:t! (T++[aP! 0])+U.length<=cap:=zpk (by rw[_as];show bt!+1+U.length<=99;lia);have c4:eM! 1<=cap:=by decide
  have c5:eM! 6<=cap:=by decide
  have c6:eM! 10<=cap:=by decide
  have ad:xf O! O! s2=ba! (n! (b6!++b6!)):=by rw[z3a,_g (zpk (by lia))]
  have rv:zrb r! [J!,bo!,bh!,l!,aL! [n! (T++[e]++W),n! (T++[e]++W),n! (T++W),bN! v]] s2=ba! (n! (b6!).reverse):=by rfl
  have key:∀(d g rv aa rr x4:D) (z:List D),py!=4->x4=X! z->dSl d a! (b! (j! k)) s2=ba! (n! T)->dSl d (b! (j! k)) a! s2=ba! (n! U)->yC [d] s2=ba! (c! z!)->xf d d s2=ba! aa->zh8 (n! [cu!]) (c! z!) s2=ba! rr-> zrb r! [J!,i!,bh!,l!,b! x4] s2=ba! rv->z0o [J!,i!,bh!,l!,b! x4] s2=H! [J!,i!,bh!,l!,aL! (z++[n! (T++[cu!]++U),rv,aa,rr,o,n! [d]])] s3:=λd g rv aa rr x4 z hz o6 x1 x2 x3 x5 x6 x7=>by
   subst o6;exact zo5 (op3 bn! (zlp (jf! (op3 (op3 (sl3 bn! rfl (part3 bn!) x1) (zfA (sx! rfl) (by decide)) (zik c1)) (sl3 bn! (part3 bn!) rfl x2) (zik c2)) x7 (jf! (op3 bn! bn! x5) (op3 (zfA (sx! rfl) (by decide)) (cl3 lp! x3) x6) (jf! (cl3 lp! e3) (zfA lp! (by show 1<=cap;decide)) rfl))) (by show 6<=cap;decide)) (zuq (by rw[hz];show 10<=cap;decide)))
  exact key _ (X! []) _ _ _ _ _ rfl rfl (sk s2) (sd s2) (gl s2) ad (by
   rw[znh,_g ⟨by lia,by decide,by simp[cap];lia⟩];congr 2;rw[_W];generalize v.length=n;induction n with
   | zero=>rfl | succ n ih=>rw[_aR,_bw,ih];rfl) rv
 obtain⟨r4,s4,e4,a4,b4,d4⟩:=vC (f:=u!) (g:=E! 10) (far:=10) (ρ:=[J!,bo!,bh!,l!,aL! dO]) d3.pot (by decide) (kL (by decide)) (by rfl) (by rfl);have fK:r4.toNat<dO.length:=by show r4.toNat<10;lia
 have iK:=wO (xs:=dO) (d:=dO[r4.toNat]) (s:=s4) a4 (_b fK);have hM:∀d∈dO,Bn (m+1) d:=by
  have fL:Bn (m+1) (n! (T++[e]++W)):=iY! (faA (faA iT (m6! he)) iW);have z0:Itm (2 ^ (m+1)) cu!:=.i (Nat.pow_pos (by decide));exact c4! fL fL (c4! (iY! (faA iT iW)) lk! (c4! (iY! (faA (faA iT (m6! z0)) iU)) (iY! (ac! (cv x (List.mem_reverse.mp hx)))) (c4! (iY! (faA cv cv)) (iY! (ac! ((List.mem_replicate.mp hx).2 ▸ z0))) (c4! (zmP ho (by lia)) (iY! (m6! (Itm.o rfl rfl))) faN))))
 refine⟨dO[r4.toNat],s4,?_,hM _ (_J fK),aJ! (aJ! (d1.trans d2) d3) d4⟩;simp only[uu,Mof,z4X,st,_d,_k,_v];rw[zm q1,zm q2,zm q3,zm (by
  have g:z2y [O!] s2=ba! (bN! v):=by rfl
  have c1:bt!+1<=cap:=zpk (by lia);have c2:t! (T++[e])+W.length<=cap:=zpk (by rw[_as];show bt!+1+W.length<=99;lia);have c3:bt!+W.length<=cap:=zpk (by lia);have c4:eM! 1<=cap:=by decide
  have c5:eM! 4<=cap:=by decide
  have key:∀(d g:D),dSl d a! (b! (j! k)) s2=ba! (n! T)->dSl d (b! (j! k+1)) a! s2=ba! (n! W)->z2y [d] s2=ba! g->z2Q [J!,i!,bh!,l!,a!] s2=H! [J!,i!,bh!,l!,aL! [n! (T++[e]++W),n! (T++[e]++W),n! (T++W),g]] s2:=λd g x1 x2 x3=>by
   have sT:=sl3 (f:=r!) (fl:=zC) (fh:=yx P!) (ρ:=[J!,i!,bh!,l!,a!]) bn! rfl (part3 bn!) x1;have sW:=sl3 (f:=r!) (fl:=yx (fQ! 2)) (fh:=zC) (ρ:=[J!,i!,bh!,l!,a!]) bn! (part3 (g7! bn! rfl)) rfl x2;have w:=op3 (op3 sT (zfA (ac3 (f:=bp!) (g:=zi) bn! rfl) (by show 1<=cap;decide)) (zik c1)) sW (zik c2);exact zo5 (zlp (jf! w w (jf! (op3 sT sW (zik c3)) (cl3 lp! x3) rfl)) (by show 4<=cap;decide))
  exact key _ _ (sk s2) (lE s2) g),zm q5,z2Z,yf,yO];simp only[ym,_e,_c,Rb];rw[e4,Rb,iK,Rb]
end Pn
namespace Pm
theorem zjU(h:Lot n z)(he:ended z=d!):∃k,k<n/\j0! k=ui z/\0<ui z/\∀j,j≠k->j0! j=0:=by
 have l1:hy! z=1:=by simpa[ended] using he
 obtain⟨x,hx,x0⟩:=h.pos;obtain⟨k,hk,e⟩:=qc!;have gk:j0! k=x:=by simp[_b hk,e]
 have oth:∀j,j≠k->j0! j=0:=by
  intro j hj;apply _Z;intro hz;have lF:∀(v:List Int)(a b:Nat),a<b->bu! a≠0->fU!≠0->2<=hy! v:=by
   intro v;induction v with
   | nil=>intro a b _ h1;simp at h1 | cons y v ih=>
    intro a b lG h1 h2;cases b with
    | zero=>lia | succ b=>
     have hb:fU!≠0:=by exact h2
     cases a with
     | zero=>
      have:1<=hy! v:=_bN.mpr λq=>by
       have:=rc! ⟨hq! (by
       apply _Z;intro q;exact hb (by simp[_M (rb! q)])),hb⟩;rw[q]at this;cases this
      simp only[nz,_az,(by simpa using h1),ne_eq,not_false_eq_true,_dj,_v,_d]at this ⊢;lia | succ a=>
      have:=ih a b (by lia) (by exact h1) hb;simp only[nz,_az]at this ⊢;split;·simp only[_d];lia
      ·exact this
  rcases Nat.lt_or_gt_of_ne hj with q | q;·have:=lF z j k q hz (by lia);lia
  ·have:=lF z k j q (by lia) hz;lia
 have fM:z.sum=x:=by
  have:∀(v:List Int)(k:Nat),k<z!->(∀j,j≠k->bu! j=0)->v.sum=bu! k:=by
   intro v;induction v with
   | nil=>intro k hk;cases hk | cons y v ih=>
    intro k hk ho;cases k with
    | zero=>
     have:∀w:List Int,(∀j,w.getD j 0=0)->w.sum=0:=by
      intro w;induction w with
      | nil=>intro _;rfl | cons u w ihw=>
       intro hw;rw[_aN,(show u=0 from by exact hw 0),ihw λj=>by exact hw (j+1)];rfl
     rw[_aN,this v λj=>by exact ho (j+1) (by lia)];simp | succ k=>
     rw[_aN,ih k (by simpa using hk) λj hj=>by exact ho (j+1) (by lia),(show y=0 from by exact ho 0 (by lia))];simp
  rw[this z k hk oth,gk]
 rw[(ziT h he)]at fM;exact⟨k,by rw[<- h.len];exact hk,by rw[gk,fM],by lia,oth⟩
theorem z9h:∀{r z:List Int}{k:Nat},aK!=py!->(∀j,j≠k->j0! j=0)->dot r z=cT! k*j0! k
 | [],[],k,_,_=>by rfl | a::r,b::z,k,hl,h=>by cases k with
  | zero=>
   rw[dot_cons,(show ∀(r z:List Int),(∀j,j0! j=0)->dot r z=0 from by
    intro r;induction r with
    | nil=>cases z<;>simp[dot] | cons u r ih=>
     intro z hz;cases z with
     | nil=>rfl | cons y z=> rw[dot_cons,(show y=0 from by exact hz 0),ih z λj=>by exact hz (j+1)];simp) r z λj=>by exact h (j+1) (by lia)];simp | succ k=>
   rw[dot_cons,z9h (k:=k) (by simpa using hl) λj hj=>by exact h (j+1) (by lia),(show b=0 from by exact h 0 (by lia))];simp
 | [],_::_,_,h,_=>by cases h | _::_,[],_,h,_=>by cases h
theorem zai(g:Int):∀(v w:List Int),dot v (w.map λx=>x*g)=dot v w*g
 | [],_=>by simp[dot] | _::_,[]=>by simp[dot] | a::v,b::w=>by
  rw[_u,dot_cons,dot_cons,zai g v w];grind
theorem z75:∀v:List Int,0<=ei! v
 | []=>by decide | a::v=>by
  have:=z75 v;have h:0<=a*a:=by
   rcases Int.le_total 0 a with q | q;·exact _be q q
   ·exact _bW q q
  rw[dot_cons];lia
theorem zkd(hn:be!)(hx:x.length=n)(hk:k<n):jV! 4 (x::ri! bB! k)=aZ! (x.getD k 0):=by
 rcases hn with rfl | rfl | rfl
 ·obtain⟨a,b,rfl⟩:=z9O hx;match k,hk with
  | 0,_=>rw[zsh];simp[zb2,d2] | 1,_=>rw[zsh];simp[zb2,d2]
 ·obtain⟨a,b,c,rfl⟩:=z8f hx;match k,hk with
  | 0,_=>rw[zs4];simp[z8P 1,d3,d2] | 1,_=>rw[zs4];simp[z8P 1,d3,d2] | 2,_=>rw[zs4];simp[z8P 1,d3,d2]
 ·obtain⟨a,b,c,d,rfl⟩:=z6X hx;match k,hk with
  | 0,_=>rw[zre];simp[kT 0,d4,d3,d2] | 1,_=>rw[zre];simp[kT 0,d4,d3,d2] | 2,_=>rw[zre];simp[kT 0,d4,d3,d2] | 3,_=>rw[zre];simp[kT 0,d4,d3,d2]
theorem zcQ(hB:e8! B)(hv:z!=n)(hk:k<n):e8! (v::B.eraseIdx k):=by
 refine⟨?_,dh! ?_⟩;·rw[_d,List.length_eraseIdx_of_lt (by rw[hB.len];exact hk),hB.len];lia
 ·rcases ep! hr with rfl | hr;·exact hv
  ·exact hB.row r (List.mem_of_mem_eraseIdx hr)
theorem zb5{α β:bD!}(f:α->β):∀(l:List α)(k:Nat),(l.eraseIdx k).map f=ri! m4! k
 | [],_=>by rfl | a::l,0=>by rfl | a::l,k+1=>by simp[zb5 f l k]
theorem zjA(hn:be!)(hP:e8! P)(hf:z0R P)(hv:z!=n)(hz:py!=n)(hk:k<n)(g0:0<g)(e:mv P z=v)(zk:j0! k=g)(zo:∀j,j≠k->j0! j=0): j! (jV! 4 (v::ri! (gV! P) k))*g=ei! v:=by
 have tM:=zcQ (z1B hP) hv hk;have bm:=(z7O hn hP hf).1;rw[z0L hn (z1B hP) hP]at bm;have du:=zkd hn (show t! (zdV P v)=n from by simp[zdV,yi,hP.len]) hk;rw[<- (show jH (v::ri! (gV! P) k) P=zdV P v::ri! bB! k from by rw[z0L hn tM hP,_u,zb5,bm]),(zeI hn tM hP)]at du;have xk:bg! (zdV P v) k=dot v (P.map λr=>cT! k):=by simp[zdV,yi,(show k<P.length from by rw[hP.len];exact hk)]
 have xg:bg! (zdV P v) k*g=ei! v:=by rw[xk,<- zai,<- (show v=(P.map λr=>cT! k).map λx=>x*g from by
  rw[<- e,_ag];refine _aq (dh! ?_);rw[z9h (by rw[hP.row r hr,hz]) zo,zk];rfl)]
 have nn:=z75 v;rw[(show jV! 4 (v::ri! (gV! P) k)=aZ! (bg! (zdV P v) k) from by
  rw[<- du];rcases hf with q | q<;>rw[q]<;>simp),_bD (by
  apply _Z;intro q;have:bg! (zdV P v) k*g<0:=_a5 (by lia) g0;lia),xg]
theorem zbz{α:bD!}{f:α->Int}:∀{L:List α}{k:Nat}{g:Int},k<aE!->g≠0->bg! (ow! f) k=g->(∀j,j≠k->bg! (ow! f) j=0)-> L.filter (λx=>bl! (f x=0))=L.eraseIdx k/\∃b,G! L k b/\L.filter (λx=>cz! (f x) 0)=[b]
 | [],k,g,h,_,_,_=>by cases h | a::L,0,g,_,g0,e,o=>by
  have fa:f a=g:=by exact e
  have zt0:∀x∈L,f x=0:=by
   intro x hx;obtain⟨i,hi,rfl⟩:=qc!;simpa[hi] using (o (i+1) (by lia))
  refine fO! (by simp[fa,g0,(_bO.mpr (ac! (by simp[zt0 x hx])):L.filter (λx=>bl! (f x=0))=L)]) a ?_;rw[_az,(_bl.mpr (ac! (by simp[zt0 x hx])))];simp[fa,g0] | a::L,k+1,g,h,g0,e,o=>by
  have fa:f a=0:=by exact o 0 (by lia)
  obtain⟨i1,b,i2,i3⟩:=zbz (by simpa using h) g0 (by exact e) λj hj=>by exact o (j+1) (by lia)
  refine⟨by simp[fa,i1],b,by exact i2,?_⟩;rw[_az,i3];simp[fa]
end Pm
namespace Pg
open L2 Dd Pm
theorem vr(h:al! ρ i!):zd i ρ s=k! d:=by rw[ym,h]
theorem zdz(h:t ρ s=k! q!):fIf t f g ρ s=g ρ s:=by rw[kI,h,Rb,_o (by decide)]
theorem zrA(h:t ρ s=k! q!)(h2:u ρ s=k! q!):fOr t u ρ s=k! q!:=by rw[z2u,h,Rb,_o (by decide),h2]
theorem vo(h:ay!=cb! b):tOf f ρ s=k! b:=by rw[vw,h];rfl
theorem zdB(h:t ρ s=ky!):qT t ρ s=k! q!:=by rw[vG,h];rfl
theorem zhu(hv:fy!)(hu:pH!=n)(hb:∀y∈u,q8!<2 ^ k)(hm:m<=bK!)(hk:k<=bK!)(s:Sto):ua [O!,rD u,c! x] s=fo! (ei! u=x):=by
 have w2 := z4s s hb hv.abs hk hm (by have:=hv.sz;lia);have key:hU! (zN [e,c! n] s=cA!->xY [e,d] s=v! (ei! u)->yC [d] s=v! n->ua [d,e,c! x] s=fo! (ei! u=x)):=λd e a1 a2 a3=>by simp[ua,Mof,z3U,zv,a1,a2,a3]
 exact key _ _ (by
  have:=z0U u s (by have:=hv.sz;lia);rw[hu]at this;exact this) w2 (by simp[yC,zY,hv.len])
structure Sh(r:Rl)(n:Nat)(v:h!)(ls:fr!)(z:h!)(k:Nat)(B:Tb)(b:h!):g! where
 run:gk! v
 len:pc!
 last:ls.getLast? = b! z
 lot:Lot n z
 kn:k<n
 zk:j0! k=b5!
 zo:∀j,j≠k->j0! j=0
 g0:0<b5!
 B_:B=gV! hN!
 tab:e8! B
 bd:Bd 318 B
 fair:z0R hN!
 ptab:e8! hN!
 pbd:Bd 104 hN!
 mvB:mv B v=z
 at_:G! B k b
 fz:B.filter (λx=>bl! (ei! x=0))=B.eraseIdx k
 fn:B.filter (λx=>cz! (ei! x) 0)=[b]
 det:j! (aZ! (Pm.det 4 (v::B.eraseIdx k)))*b5!=ei! v
theorem zu0(r:Rl)(h:j2!):∃ls z k B b,Sh r n v ls z k B b:=by
 obtain⟨ls,Rn,ll⟩:=zmz (20*104+3) v er! (zso (r:=r) h.toLot h.toN);obtain⟨z,lz,ez,Lz,gz,PZ⟩:=Rn.whole er! (cN! (by have:=h.bd y hy;lia):∀y∈v,y<=2 ^ 104-1);obtain⟨k,hk,zk,g0,zo⟩:=zjU Lz ez;rw[gz]at zk g0;have lH:Bd 104 hN!:=znU PZ (by lia);have n4:2<=t! hN!/\t! hN!<=4:=by have:=PZ.tab.len;have:=h.sz;lia
 have tB:=z1B PZ.tab;have o7 := zn9 lH n4.1 n4.2 sD!;have mB:mv (gV! hN!) v=z:=by
  have:=znw jN! PZ.tab sD! Lz.len;rw[PZ.eq]at this;exact this
 have lI:(gV! hN!).map (λx=>ei! x)=z:=mB;obtain⟨f1,b,f2,f3⟩:=zbz (g:=b5!) (by rw[tB.len];exact hk) (by lia) (by rw[lI];exact zk) (λj hj=>by rw[lI];exact zo j hj);exact⟨ls,z,k,_,b,Rn,by lia,lz,Lz,hk,zk,zo,g0,rfl,tB,o7,sD!,PZ.tab,lH,mB,f2,f1,f3,zjA jN! PZ.tab sD! h.len Lz.len hk g0 PZ.eq zk zo⟩
section
variable {n:Nat}{v:h!}{r:Rl}{ls:fr!}{z:h!}{k:Nat}{B:Tb}{b:h!}
theorem zdW(h:j2!) (S:Sh r n v ls z k B b) (s:Sto):∀x∈B,xY [rD x,O!] s=v! (ei! x):=ac! (z4s s (S.bd x hx) h.abs (by decide) (by decide) (by have:=S.tab.row x hx;have:=h.sz;lia))
end
end Pg
namespace Pg
open L2 Dd Pm
theorem zff{α:bD!} (g:α->D)(P:Sto->g!)(Q:D->g!):∀(l:List α)(acc:List D)(s:Sto),(∀a∈l,∀s,P s->∃y s',body (g a) s=bz! (b! y)/\Q y/\P s')->im!+hT!<=cap->P s->(∀y∈acc,Q y)->∃ys s',qp [] all dM! kA! acc s=bz! ys/\cO!=im!+hT!/\(∀y∈ys,Q y)/\P s'
 | [],acc,s,_,_,hP,hQ=>⟨acc,s,by simp[qp,okG],by simp,hQ,hP⟩ | x::xs,acc,s,hb,hl,hP,hQ=>by
  obtain⟨y,s1,e,hy,o8⟩:=hb x (by simp) s hP;obtain⟨ys,s2,e2,h1,h2,h3⟩:=zff (all:=all) g P Q xs (acc++[y]) s1 (λa ha=>hb a (by simp[ha])) (by simp at hl ⊢;lia) o8 (by
   intro z hz;rcases nl! hz with hz | hz;·exact hQ z hz
   ·simp at hz;rw[hz];exact hy);refine⟨ys,s2,?_,by simp at h1 ⊢;lia,h2,h3⟩;rw[_u,qp,_g (by intro p hp;simp at hp),e];have hc:im!<cap:=by simp at hl;lia
  simp[hc,e2]
theorem zni{α:bD!} (g:α->D) (ev:α->Ev) (P:Sto->g!) (Q:D->g!) (l:et!) (hi:fi ρ s=.ok (kA!,[]) s0) (hg:∀a∈l,∀s,fg (g a) jw! s=k! (ev a)) (he:∀a∈l,∀s,P s->∃y s',fe (ev a) s=bz! y/\Q y/\P s') (hl:hT!<=cap) (hP:P s0): ∃ys s',zt fi mp fg zU fe ρ s=bz! hz!/\cO!=hT!/\(∀y∈ys,Q y)/\P s':=by
 obtain⟨ys,s',e,h1,h2,h3⟩:=zff (all:=kA!) (body:=λd s=>D! (fg d jw! s) (fun ρ' s1=>D! (zU ρ' s1) (λt s2=>aF! t (D! (fe ρ' s2) (λy s3=>ge! (b! y))) (ba! a!)))) g P Q l [] s0 (λa ha s hP=>by
  obtain⟨y,s',e,hq,hp⟩:=he a ha s hP;exact⟨y,s',by simp[hg a ha s,e],hq,hp⟩) (by simpa using hl) hP (by simp);refine⟨ys,s',?_,by simpa using h1,h2,h3⟩;rw[ue,uH,hi,Dd.R.bind_ok];rw[e];rfl
theorem qZ{ar:FA}{ρ:Ev}{s s1:Sto}{n:Nat}(hn:dv! n)(h:ar ρ s=I! [c! n]):jV ar ρ s=I! (aT! n (fL! (aa! k)),[]):=by
 rw[zeS,h,Dd.R.bind_ok];simp only;rw[bS! (by lia) (by lia)];rfl
end Pg
namespace Pn
open L2 Dd Pm Pg
def vD(n:Nat):eB! D
 | .tup ys=>jb! cO! n&&ys.all isI | _=>false
theorem z2O{n:Nat}(hk:Kd x)(hn:dv! n)(s:Sto):zN [x,c! n] s=cb! (vD n x):=by cases x with
 | tup ys=>
  by_cases h:cO!=n
  ·subst h;rw[z3e hk s hn];simp[vD]
  ·simp[zN,Mof,qO,zv,gIs,tyD,isT,yC,zY,(show ¬ (j! cO!=n) from by lia),vD,h] | scr _=>exact hk.elim | _=>
  have hd:=hk.ty;first
  | (simp[tyD]at hd;done) | rfl
structure Tn(m:Nat)(d:D):g! where
 ty:ha! d
 it:∀xs,d=af!->∀x∈xs,Bn m x
theorem Tn.tup{m:Nat}{xs:x!}(h:∀x∈xs,Bn m x):Tn m af!:=g4! (λys e x hx=>by cases e;exact h x hx)
theorem Tn.other(h:ha! d)(hn:∀xs,d≠af!):Tn m d:=⟨h,λxs e=>bO! e (hn xs)⟩
theorem Bn.up(h:Bn m d)(hk:m<=k):Bn k d:=⟨h.kd,λxs i e hi=>_j (h.bd xs i e hi) (_B (by decide) hk)⟩
theorem zac:LeM yN z14:=mz! (r8! LeS.fNo)
theorem zmJ(s:Sto) (hm:m<=bK!) (hk:k<=bK!):∀(ps:List (Int×Int)) (aD:Int) (all:List D) (a b:Option D),(∀p∈ps,aZ! p.1<2 ^ m/\aZ! p.2<2 ^ k)-> ∃a' b',yT [] all (eO! (yS 5 6 d ρ s) (je ρ' s')) (oF! (i8! (cU! p.1 p.2))) [t,v,f,ln,e! aD,a,b] s=aN! [t,v,f,ln,e! (aD+(oF! (λp=>p.1*p.2)).sum),a',b']
 | [],aD,all,a,b,_=>⟨a,b,by simp[yT,okG]⟩ | p::ps,aD,all,a,b,h=>by
  obtain⟨h1,h2⟩:=h p (by simp);obtain⟨a',b',ih⟩:=zmJ (t:=t) (v:=v) (f:=f) (ln:=ln) s hm hk ps (aD+p.1*p.2) all (e! p.1) (e! p.2) λq hq=>h q (by simp[hq]);refine a3! a' b' ?_;rw[_u,yT,_g (by intro p hp;cases hp),z9H,Rb];simp only[_L,_F];rw[(show je [t,v,f,ln,e! aD,e! p.1,e! p.2] s=aN! [t,v,f,ln,e! (aD+p.1*p.2),e! p.1,e! p.2] from by simp[(z0B s h1 hm h2 hk)])];simp only[_u,_aN];rw[<- Int.add_assoc];exact ih
theorem ziR(r v:h!):(kv! r v (λp=>p.1*p.2)).sum=ei! r:=by unfold dot;rw[zw]
theorem zn0{s:Sto} : (s++[x]).set aW! y=s++[y]:=by simp
noncomputable abbrev ztO:D->Ev->ee! Fl:=eO! (yh 3 d ρ s) ((a6! vR vZ wF) ρ' s')
theorem zlr(a3 a4 a5 a6:fN!) (hv:z9e (s++ls!) v=b! (iL vs,[])) (hr:∀x∈r,de! m) (ed:∀x∈vs,de! k) (hm:m<=bK!) (hk:k<=bK!) (ha:im!<fF!): ∃b4 b5 b6,ztO (rD r) [ex!,bV!,ad!,a3,a4,a5,a6] (s++ls!)=H! [ex!,bV!,ad!,bv! r,b4,b5,b6] (s++bI! (acc++[dot r vs])):=by
 obtain⟨a',b',lp⟩:=zmJ (t:=ex!) (v:=bV!) (f:=ad!) (ln:=bv! r) (m:=m) (k:=k) (s++ls!) hm hk (pJ! r vs) 0 (z4Q (iL r) (iL vs)) a5 a6 (bs! ⟨hr _ (mo!).1,ed _ (mo!).2⟩);refine⟨e! (dot r vs),a',b',?_⟩;rw[show ztO (rD r) [ex!,bV!,ad!,a3,a4,a5,a6] (s++ls!)=zy vR (zy vZ wF) [ex!,bV!,ad!,bv! r,a4,a5,a6] (s++ls!) from rfl];have f3:vR [ex!,bV!,ad!,bv! r,a4,a5,a6] (s++ls!)=H! [ex!,bV!,ad!,bv! r,e! 0,a5,a6] (s++ls!):=rfl;rw[zm f3,zm (by
  rw[vZ,jP,zhv];simp only[zq,zL,ym,_c,_e,Rb,hv,show z9e (s++ls!) (rD r)=b! (iL r,[]) from rfl,_aL];rw[za1]at lp ⊢;rw[ziR,_aP]at lp;exact lp),(show wF [ex!,bV!,ad!,bv! r,e! (dot r vs),a',b'] (s++ls!)=H! [ex!,bV!,ad!,bv! r,e! (dot r vs),a',b'] (s++bI! (acc++[dot r vs])) from by rw[wF,zmA (L:=s.length) (xs:=acc) (x:=dot r vs) (s2:=s++ls!) rfl rfl (by simp) ha,zn0])]
theorem zeZ(hv:∀acc,z9e (s++ls!) v=b! (iL vs,[])) (ed:∀x∈vs,de! k) (hm:m<=bK!) (hk:k<=bK!):∀(Rs acc:List (List Int)) (ac:List Int) (all:List D) (a3 a4 a5 a6:Option D),(∀r∈Rs,∀x∈r,de! m)->ac.length+Rs.length<=fF!-> ∃b3 b4 b5 b6,yT [] all ztO (Rs.map rD) [ex!,bV!,ad!,a3,a4,a5,a6] (s++bI! ac)=H! [ex!,bV!,ad!,b3,b4,b5,b6] (s++bI! (ac++mv Rs vs))
 | [],acc,ac,all,a3,a4,a5,a6,_,_=>⟨a3,a4,a5,a6,by simp[yT,okG,mv]⟩ | r::Rs,acc,ac,all,a3,a4,a5,a6,h,hl=>by
  obtain⟨b4,b5,b6,e⟩:=zlr (T:=T) (v:=v) (r:=r) (vs:=vs) (m:=m) (k:=k) (s:=s) (acc:=ac) a3 a4 a5 a6 (hv ac) (h r (by simp)) ed hm hk (by simp at hl;lia);obtain⟨c3,c4,c5,c6,ih⟩:=zeZ hv ed hm hk Rs acc (ac++[dot r vs]) all (bv! r) b4 b5 b6 (λq hq=>h q (by simp[hq])) (by simp at hl ⊢;lia);refine⟨c3,c4,c5,c6,?_⟩;rw[_u,yT,_g (by intro p hp;cases hp),e,Rb];simp only[mv,_u]at ih ⊢;rw[ih,_b6,List.singleton_append]
theorem zsF(s:Sto) (hv:v=n! (iL vs)\/v=bN! vs) (hA:Bd m A) (ed:∀x∈vs,de! k) (hm:m<=bK!) (hk:k<=bK!) (hl:dv! q9!):vO [tD A,v] s=k! (rD (mv A vs)):=by
 obtain⟨b3,b4,b5,b6,lp⟩:=zeZ (T:=tD A) (λacc=>by rcases hv with rfl | rfl<;>rfl:∀acc,z9e (s++ls!) v=b! (iL vs,[])) ed hm hk A [] [] (A.map rD) none none none none hA (by simp;lia);have f1:z1r [cm! A,bV!,a!,a!,a!,a!,a!] s=H! [cm! A,bV!,ad!,a!,a!,a!,a!] (s++bI! []):=by rfl
 have f2:z1p [cm! A,bV!,ad!,a!,a!,a!,a!] (s++bI! [])=H! [cm! A,bV!,ad!,b3,b4,b5,b6] (s++bI! (mv A vs)):=lp;simp only[vO,z72,Mof,z1Y];rw[show zv ["_law_table_here",kY!,gs!,gt!,pB!,eq!,d5!] [tD A,v]=[cm! A,bV!,a!,a!,a!,a!,a!] from rfl];simp only[_d,_k,_v];rw[zm f1,zm f2,(show jb [cm! A,bV!,ad!,b3,b4,b5,b6] (s++bI! (mv A vs))=.ok (.rt (rD (mv A vs))) (s++bI! (mv A vs)) from by
  rw[jb,yf,yF (x:=l1!) p!];simp only[zV,zY,(show G! (s++bI! (mv A vs)) aW! (iL (mv A vs)) from by simp),Rb])];rw[zeN,List.take_left'];rfl
theorem zrE{B:Tb} {f g:FE} (s:Sto) (hd:d=n! (lY! rD)\/d=X! (lY! rD)) (hb:∀r∈B,aK!=n) (hj:j<n) (hl:dv! B.length) (hf:ay!=k! d) (hm:jw!=[e! (j! j),a!]): zt (zQ f) mp (yh 1) zU (gC! 1) ρ s=k! (bN! (lY! (λr=>cT! j))):=by rw[comp_map (fi:=zQ f) (mp:=mp) (fg:=yh 1) (fe:=gC! 1) (ρ:=ρ) (s:=s) rD (λr=>aP! (cT! j)) (λr=>[aO!,bv! r]) B (by rcases hd with rfl | rfl<;>simp[hf]) (λa _=>by rw[hm];rfl) (dh! (by
    have:=z98 (xs:=iL r) (j:=j) (d:=c! (cT! j)) s (by simp[_D,_b (by rw[hb r hr];exact hj),List.getD]);exact this)) (by simp[cap];lia),show iL (lY! (λr=>cT! j))=lY! (λr=>aP! (cT! j)) by rw[iL,_ag];rfl]
theorem zqt(hb:∀r∈B,aK!=n)(hj:j<n)(hB:Bd k B):∀x∈(lY! (λr=>cT! j)),de! k:=ac! (by
 obtain⟨r,hr,rfl⟩:=gB!;have lJ:j<aK!:=by rw[hb r hr];exact hj
 exact hB r hr _ (by rw[_n,_b lJ];exact _J lJ))
theorem zkL{dA dB:D} (s:Sto) (o9:dA=tD A) (pb:dB=n! (lY! rD)) (n4:n<=4) (ha:q9!=n) (pc:B.length=n) (hb:∀r∈B,aK!=n) (hA:Bd m A) (hB:Bd k B) (hm:m<=bK!) (hk:k<=bK!): zt (eA! 2) (fw! 0 1) (yh 2) zU (da! vO (i7! (zQ r!) (F! 2) 1 (gC! 1))) (fp! dA dB bC!) s=bw! (eP! ((yi B).map (mv A))):=by
 rw[comp_map (λj:Nat=>aP! j) (λj=>rD (mv A (lY! (λr=>cT! j)))) (λj=>[b! dA,b! dB,aO!]) i3! (qZ (by lia) (by rfl)) (λa _=>by rfl) (λj hj=>?_) (by simp[cap];lia)];·rw[yi,pc,_ag,_ag];rfl
 ·have gv:j<n:=by simpa using hj
  rw[call2 (x:=dA) (y:=bN! (lY! (λr=>cT! j))) rfl (zrE (f:=r!) (g:=u!) (mp:=F! 2) (ρ:=[b! dA,b! dB,aO!]) s (C! pb) hb gv (by lia) rfl rfl),o9];exact zsF s (T! rfl) hA (zqt hb gv hB) hm hk (by lia)
theorem zk6{S:Tb} {dA dB dS:D} (s:Sto) (pd:dS=X! (S.map rD)) (n4:n<=4) (lS:rj!=n) (rS:∀r∈S,aK!=n): zt (eA! 2) (F! 3) (yh 1) zU (dr! cW! (F! 1) 1 (gC! 1)) [b! dA,b! dB,bC!,b! dS] s=bw! (eP! (yi S)):=by
 rw[comp_map (λj:Nat=>aP! j) (λj=>rD (S.map λr=>cT! j)) (λj=>[b! dS,aO!]) i3! (qZ (by lia) (by rfl)) (λa _=>by rfl) (λj hj=>?_) (by simp[cap];lia)];·rw[yi,lS,_ag];rfl
 ·rw[yF (zrE (f:=u!) (g:=u!) (mp:=F! 1) (ρ:=[b! dS,e! (j! j)]) s (T! pd) rS (by simpa using hj) (by lia) rfl rfl)];rfl
theorem zqH{n:Nat}{dA dB dS:D} (s:Sto)(g1:yC [dA] s=v! n) (c2:zt (eA! 2) (fw! 0 1) (yh 2) zU (da! vO (i7! (zQ r!) (F! 2) 1 (gC! 1))) (fp! dA dB bC!) s=k! dS) (c3:zt (eA! 2) (F! 3) (yh 1) zU (dr! cW! (F! 1) 1 (gC! 1)) [b! dA,b! dB,bC!,b! dS] s=k! bx!):wK [dA,dB] s=k! af!:=by
 have st:zv [eq!,d5!,f0!,q4!] [dA,dB]=fp! dA dB a!:=rfl;have f3:vm [b! dA,b! dB,bC!,b! dS] s=j8! af!:=by rw[vm,yf,yF c3];rfl
 simp only[wK,Mof,js,st,_d,_k,_v];rw[zm (show vp (fp! dA dB a!) s=aN! (fp! dA dB bC!) from by rw[vp,zR,yF (x:=dA) p!,g1];rfl),zm (show vt (fp! dA dB bC!) s=aN! [b! dA,b! dB,bC!,b! dS] from by rw[vt,zR,c2];rfl),f3]
theorem znz(s:Sto)(hn:be!)(ha:id!)(hb:e8! B)(hA:Bd m A)(hB:Bd k B)(hm:m<=bK!)(hk:k<=bK!):wK [tD A,tD B] s=he! (jH A B):=by
 have n4:n<=4:=by lia
 exact zqH s (by simp[yC,zY,ha.len]) (zkL s rfl rfl n4 ha.len hb.len hb.row hA hB hm hk) (zk6 (S:=(yi B).map (mv A)) s rfl n4 (by simp[yi,hb.len]) (dh! (by
  obtain⟨c,_,rfl⟩:=jX!;simp[mv,ha.len])))
theorem zcg{lt lt':Nat->ln!}(h:∀i j,i<n->j<n->lt i j=lt' i j):∀t:W.KasT α,ed! n t=kev n lt' t
 | .ret a=>rfl | .ask i j k=>by
  unfold kev;split
  ·rename_i aJ;rw[h i j aJ.1 aJ.2];exact zcg h _
  ·rfl
def mt(a b c d e f:Bool):Nat->ln!
 | 0,1=>a | 0,2=>b | 0,3=>c | 1,2=>d | 1,3=>e | 2,3=>f | 1,0=>!a | 2,0=>!b | 3,0=>!c | 2,1=>!d | 3,1=>!e | 3,2=>!f | _,_=>false
noncomputable def trn(n:Nat)(lt:Nat->ln!):Bool:=(i3!).all λi=>(i3!).all λj=>(i3!).all λk=>!(lt i j&&lt j k)||lt i k
noncomputable def gud(n:Nat)(lt:Nat->ln!):Bool:=match ed! n sM! with
 | none=>false | some p=>bl! (qW! i3!)&&bl! (rX! (ds! i j))
theorem zwa:∀a b c d e f:Bool,trn 2 (mt a b c d e f)=d!->gud 2 (mt a b c d e f)=d!:=by decide +kernel
theorem zwN:∀a b c d e f:Bool,trn 3 (mt a b c d e f)=d!->gud 3 (mt a b c d e f)=d!:=by decide +kernel
theorem zw4:∀a b c d e f:Bool,trn 4 (mt a b c d e f)=d!->gud 4 (mt a b c d e f)=d!:=by decide +kernel
theorem z7W{lt lt':Nat->ln!}(h:∀i j,i<n->j<n->lt i j=lt' i j)(g:gud n lt'=d!):∃p,ed! n sM!=b! p/\qW! i3!/\rX! (ds! i j):=by
 unfold gud at g;rw[<- zcg h]at g;cases e:ed! n sM! with
 | none=>rw[e]at g;cases g | some p=>
  rw[e]at g;simp only[_S,_aA]at g;refine mS! p g.1 (List.Pairwise.imp_of_mem (λ{i j} hi hj q=>?_) g.2);rw[h i j (_aO.mp (g.1.mem_iff.mp hi)) (_aO.mp (g.1.mem_iff.mp hj))];exact q
theorem zg5(h2:2<=n)(h4:n<=4)(pf:∀i,lt i i=q!)(aD:∀i j,i<n->j<n->i≠j->lt j i=! lt i j)(tr:∀i j k,ds! i j->ds! j k->ds! i k): ∃p,ed! n sM!=b! p/\qW! i3!/\rX! (ds! i j):=by
 have ee:∀i j,i<n->j<n->lt i j=mt (lt 0 1) (lt 0 2) (lt 0 3) (lt 1 2) (lt 1 3) (lt 2 3) i j:=λi j hi hj=>by
  have lK:i=0\/i=1\/i=2\/i=3:=by lia
  by_cases e:i=j
  ·subst e;rw[pf];rcases lK with rfl | rfl | rfl | rfl<;>rfl
  ·have q:=aD j i hj hi (λz=>e jH!);rcases lK with rfl | rfl | rfl | rfl<;>rcases (show j=0\/j=1\/j=2\/j=3 from by lia) with rfl | rfl | rfl | rfl<;>first | exact fn! e | rfl | exact q
 have tm:trn n (mt (lt 0 1) (lt 0 2) (lt 0 3) (lt 1 2) (lt 1 3) (lt 2 3))=d!:=by
  simp only[trn,_Q,_aO];intro i hi j hj k hk;rw[<- ee i j hi hj,<- ee j k hj hk,<- ee i k hi hk];cases a:lt i j<;>cases b:lt j k<;>simp;exact tr i j k a b
 rcases (show n=2\/n=3\/n=4 from by lia) with rfl | rfl | rfl;·exact z7W ee (zwa _ _ _ _ _ _ tm)
 ·exact z7W ee (zwN _ _ _ _ _ _ tm)
 ·exact z7W ee (zw4 _ _ _ _ _ _ tm)
theorem zh4(p:Int×Int):ov! p p=q!:=by simp[Dd.lexLt]
theorem znW{p q:Int×Int}(h:p≠q):ov! q p=! ov! p q:=by
 obtain⟨a,b⟩:=p;obtain⟨c,d⟩:=q;simp only[Dd.lexLt];by_cases e:a=c
 ·subst e;have:b≠d:=λz=>h (by rw[z]);simp only[_v,this,this.symm,_aV];by_cases l:b<d;·simp[l];lia
  ·simp[l];lia
 ·have e':¬ c=a:=λz=>e jH!;simp only[e,e',_aV];by_cases l:a<c;·simp[l];lia
  ·simp[l];lia
theorem zh1: Dd.lexLt p q=d! ↔ p.1<q.1\/(p.1=q.1/\p.2<q.2):=by
 obtain⟨a,b⟩:=p;obtain⟨c,d⟩:=q;simp only[Dd.lexLt];by_cases e:a=c
 ·subst e;by_cases e2:b=d
  ·subst e2;simp
  ·simp[e2]
 ·simp[e]
theorem zqV(h:Dd.lexLt p q=d!)(h':Dd.lexLt q r=d!):Dd.lexLt p r=d!:=by
 rw[zh1]at *;lia
noncomputable abbrev pD(p:Int×Int):D:=n! (cU! p.1 p.2)
theorem z8S:∀ps:List (Int×Int),z4S (oF! pD)=b! ps
 | []=>rfl | p::ps=>by simp[z4S,z8S ps]
theorem zcj(h2:2<=a5!) (h4:a5!<=4) (nd:ps.Nodup) (s:Sto): ∃qs:List (Int×Int),z3W [X! (oF! pD)] s=bw! sU!/\qs.Perm ps/\qs.Pairwise λa b=>Dd.lexLt a b=d!:=by
 obtain⟨p,e,pm,pw⟩:=zg5 (n:=ps.length) (lt:=λi j=>Dd.lexLt (gA! (0,0)) (o9! (0,0))) h2 h4 (λi=>zh4 _) (λi j hi hj aJ=>znW λz=>aJ (by
  rw[_n,_n,_b hi,_b hj]at z;exact (_a2 nd).mp (by simpa using z))) (λi j k a b=>zqV a b);have cr:∀i∈p.toList,i<a5!:=eH! (_aO.mp (pm.mem_iff.mp hi));refine⟨ko! (gA! (0,0)),?_,?_,?_⟩
 ·have em:(ko! ((oF! pD).getD i aA!))=(ko! (gA! (0,0))).map pD:=by
   rw[_ag];refine _aq (eH! ?_);simp[_n,(cr i hi)]
  simp only[z3W,Dd.listOf,z8S,_z];rw[bS! h2 (by lia),e];simp only;rw[bS! (by simpa using (show p.toList.all (λi=>bl! (i<t! (oF! pD)))=d! from by
   rw[_Q];intro i hi;simpa using cr i hi)) (by rw[pm.length_eq,_de]),em]
 ·refine aJ! (pm.map λi=>gA! (0,0)) ?_;rw[(show aT! a5! (λi=>gA! (0,0))=ps from by
   apply _aM;·simp
   ·intro i h1 h2;simp[_n,h2])]
 ·rw[List.pairwise_map];exact pw
end Pn
namespace Pm
open L2 (maxL minL maxL_ge maxL_mem minL_le minL_mem)
noncomputable abbrev enP(v:h!):jk! Nat:=v.zipIdx
noncomputable def zbp(v:h!):jk! Int:=(mY! (enP v) (eu! 0 p.1)).map λp=>(p.1,j! p.2)
theorem zdJ: p∈enP v ↔ G! v p.2 p.1:=List.mem_zipIdx_iff_getElem?
theorem z1E: a∈zbp v ↔ ∃i:Nat,a.2=i/\al! v a.1/\0<a.1:=by
 unfold zbp;simp only[_q,_bp,_aA];constructor
 ·rintro⟨p,⟨hp,h0⟩,rfl⟩;exact mS! p.2 (zdJ.mp hp) h0
 ·rintro⟨i,e,g,h0⟩;exact⟨(a.1,i),⟨zdJ.mpr g,h0⟩,by rw[<- e]⟩
theorem zhf: ∀{v:List Int}{i:Nat},al! v x->ra! x<=i
 | [],i,h=>by simp at h | y::v,0,h=>by
  simp only[_c,_y]at h;subst h;simp | y::v,i+1,h=>by
  simp only[_e]at h;have:=zhf h;rw[List.idxOf_cons];cases y==x<;>simp<;>lia
theorem getD_get{v:h!} (h:i<z!):al! v b3!:=by simp[_n,h]
theorem zeD{w:h!}{qs:jk! Int}(hw:∀x∈w,0<=x)(hn:nz w≠[])(hm:∀a,a∈qs ↔ a∈zbp w)(pw:qs.Pairwise λa b=>Dd.lexLt a b=d!):∃kE,qs=(jh! w,j! (lp w))::kE:=by
 obtain⟨l1,l2,l3⟩:=zdm hn;have cr:(jh! w,j! (lp w))∈zbp w:=z1E.mpr ⟨lp w,rfl,by rw[pN! l1,l2],(by
  have:=hw _ (sd! hn).1;lia)⟩;cases qs with
 | nil=>exact bO! ((hm _).mpr cr) (by simp) | cons a kE=>
  refine as! kE ?_;obtain⟨i,e,g,h0⟩:=z1E.mp ((hm a).mp iA!);have rc:=minL_le _ (rc! ⟨_x g,by lia⟩);rcases ep! ((hm _).mpr cr) with z | z;·rw[z]
  ·have lx:=Pn.zh1.mp ((List.pairwise_cons.mp pw).1 _ z);simp only at lx;rcases lx with q | ⟨q,q2⟩;·lia
   ·have:w.idxOf a.1<=i:=zhf g;rw[q]at this;have e2:lp w=w.idxOf (jh! w):=rfl;lia
theorem z85{n:Nat}{v:h!}(h:aQ!)(a:Int×Int):a∈zbp c3! ↔ a∈zbp v/\a.2≠j! bd!:=by
 have ne:=h.ne;rw[z1E,z1E];constructor
 ·rintro⟨i,e,g,h0⟩;have hi:i<t! c3!:=(cV! g);rw[pN! hi,_y,(uK ne i)]at g;split at g;·lia
  ·rw[wL ne]at hi;exact⟨⟨i,e,by rw[pN! hi,g],h0⟩,by lia⟩
 ·rintro⟨⟨i,e,g,h0⟩,hg⟩;have hi:i<z!:=cV! g;rw[pN! hi]at g;refine ck! i e ?_ h0;rw[pN! (by rw[wL ne];exact hi),uK ne i,_o (by lia),g]
theorem z7o(h:aQ!):∀x∈c3!,0<=x:=ac! (by
 rw[others_eq e4!]at hx;rcases _A hx with q | q;·exact h.nn x q
 ·lia)
theorem zo6{qs:jk! Int}(hw:∀x∈w,0<=x)(hn:nz w≠[])(hm:∀a,a∈qs ↔ a∈zbp w):a4! sE!/\kf! sE!=kf! w/\0<kf! w:=by
 obtain⟨y,hy⟩:=List.exists_mem_of_ne_nil _ hn;obtain⟨y1,y2⟩:=qD.mp hy;have p0:0<kf! w:=by
  have:=hw y y1;have:=maxL_ge (xs:=w) y y1;lia
 obtain⟨i1,i2⟩:=zbO (kW! (λz=>hn (by rw[z];rfl):a4! w));have fN:kf! w∈sE!:=_q.mpr (ce! ((hm _).mpr (z1E.mpr (mS! _ (by rw[pN! i1,i2]) p0)):(kf! w,j! (w.idxOf (kf! w)))∈qs));have ne:a4! sE!:=List.ne_nil_of_mem fN;refine a3! ne ?_ p0;have h1:=op! _ fN;obtain⟨a,ha,e⟩:=_q.mp (kW! ne);obtain⟨i,_,g,_⟩:=z1E.mp ((hm a).mp ha);have h3:=maxL_ge (xs:=w) a.1 (_x g);lia
theorem zf8{w:h!} (hk:k∈w) (p:ln!) (hp:∀i,i<pO!->p i=bl! (w.getD i 0=k)):∃kE,kP! (iM! pO!) p=w.idxOf k::kE:=by
 obtain⟨i1,i2⟩:=zbO hk;have hd:=List.head?_filter (p:=p) (l:=iM! pO!);rw[(show (iM! pO!).find? p=b! (w.idxOf k) from by
  rw[List.find?_range_eq_some];refine⟨by rw[hp _ i1,i2];simp,by simpa using i1,λj hj=>?_⟩;rw[hp j (by lia)];simp only[Bool.not_eq_true',decide_eq_false_iff_not];intro z;have:=zhf (v:=w) (i:=j) (x:=k) (by rw[pN! (by lia),z]);lia)]at hd;cases e:kP! (iM! pO!) p with
 | nil=>rw[e]at hd;simp at hd | cons a kE=>
  rw[e]at hd;simp only[List.head?_cons,_y]at hd;exact⟨kE,by rw[hd]⟩
noncomputable def zgW(v:h!)(z:Int)(ps:jY!)(xs:h!):h!:=ps.foldl (λxs p=>iL! p (bu! p / z)) xs
theorem zeR(v:h!)(z:Int):∀(ps:List Nat)(xs:List Int),t! (zgW v z ps xs)=w!
 | [],xs=>rfl | p::ps,xs=>by simpa[zgW] using (zeR v z ps (iL! p (bu! p / z)))
theorem zeQ(v:h!)(z:Int):∀(ps:List Nat)(xs:List Int)(i:Nat),i<w!->bg! (zgW v z ps xs) i=an! (i∈ps) (b3! / z) (xs.getD i 0)
 | [],xs,i,_=>by simp[zgW] | p::ps,xs,i,hi=>by
  have e:zgW v z (p::ps) xs=zgW v z ps (iL! p (bu! p / z)):=rfl;rw[e,(zeQ v z ps (iL! p (bu! p / z)) i (by simpa using hi))];by_cases q:i∈ps;·simp[q]
  ·by_cases q2:i=p
   ·subst q2;simp[q,hi,_n]
   ·have q3:¬ p=i:=λz=>q2 jH!;simp[q,q2,_n,q3]
theorem z1J(v:h!)(b:Nat)(ps:jY!):zgW v fU! ps (l3! 0)=yW v (b,ps):=by
 apply _aM;·rw[zeR,xn];simp
 ·intro i h1 h2;have hi:i<z!:=by rw[xn]at h2;exact h2
  have:=zeQ v fU! ps (l3! 0) i (by simpa using hi);rw[_n,_b h1,_aG]at this;rw[this];simp[yW,hi]
theorem zhb(v:h!)(b:Nat):yW v (b,[])=l3! 0:=by
 apply _aM;·rw[xn];simp
 ·simp[yW]
end Pm
namespace Pg
open L2 Dd Pm
section
variable {r F G:Int}{s:Sto}{l:Nat}
theorem z31{fa fb fc:FE}{ρ:Ev}{s s1 s2:Sto}{L:Nat}{xs:x!}{i:Int}{d:D}(hc:fc ρ s=I! d)(ha:gM! s1=I! (.loc L))(hb:gg!=ba! U!)(at_:G! s2 L xs)(h0:0<=i)(h1:i<w!)(hd:m0!):z1k fa fb fc ρ s=H! ρ (oo! L (iL! kU! d)):=by
 have e:k5! i=b! kU!:=by
  unfold ixN;rw[_g h0,_g (by lia)]
 rw[zdM,hc,Rb,ha,Rb,hb,Rb];simp only[at_,e,hd,_v]
end
end Pg
namespace Po
open L2 Dd Pm Pg Pn
theorem zbe:∀(v:List Int)(k:Nat),z2K k b6!=(v.zipIdx k).map (i8! (cU! (aa! p.2) p.1))
 | [],k=>rfl | x::v,k=>by simp[z2K,zbe v (k+1)]
theorem z9W{v:h!}{f:FE}{ρ:Ev}{s:Sto}(hf:ay!=k! O!):z2M (a0! f) ρ s=k! ((enP v).map (i8! (cU! (aa! p.2) p.1)),[]):=by simp only[z2M,zq,hf,Rb,zL,z9e,zbe]
theorem zkl(h:∀x∈v,0<=x):t! (zbp v)=hy! v:=by
 simpa[zbp] using (show ∀(v:List Int)(k:Nat),(∀x∈v,0<=x)->t! (mY! (v.zipIdx k) (eu! 0 p.1))=hy! v from by
  intro v;induction v with
  | nil=>intro k _;rfl | cons x v ih=>
   intro k hx;have h0:=hx x iA!;have ih:=ih (k+1) (cN! (hx y (.tail _ hy)));rw[_bH];by_cases q:x=0
   ·subst q;simpa[nz,_az] using ih
   ·simp only[nz,_az,(show 0<x from by lia),q,_dj,ne_eq,not_false_eq_true,_v,_d];simpa[nz] using ih) v 0 h
theorem znX(v:h!):(zbp v).Nodup:=by
 refine _dl _ (λa b lG z=>lG ?_) (kP! (List.Pairwise.of_map (S:=λa b:Nat=>a≠b) Prod.snd (λa b h z=>h (by rw[z])) (by rw[List.zipIdx_map_snd];exact List.nodup_range'):(enP v).Nodup) _);simp only[_br]at z;exact Prod.ext z.1 (by lia)
theorem zly(h:aQ!)(he:eD!):2<=t! (zbp v)/\t! (zbp v)<=4:=by
 have l4:=h.le4;rw[zkl f2!];have h1:hy! v≠1:=by simpa[ended] using he
 have h2:hy! v≠0:=λz=>h.nzne (_aY.mp z);have h3:hy! v<=z!:=List.length_filter_le _ _;lia
theorem zjZ(h:aQ!) (he:eD!) (ρ:Ev) (s:Sto) (h1:G! ρ 1 bo!): ∃qs:List (Int×Int),qQ ρ s=aN! (ρ.set 3 d9!)/\(∀a,a∈qs ↔ a∈zbp v)/\qs.Pairwise λa b=>Dd.lexLt a b=d!:=by
 have l2:=zly h he;obtain⟨qs,e,pm,pw⟩:=zcj l2.1 l2.2 (znX v) s;refine⟨qs,?_,λa=>pm.mem_iff,pw⟩;have l4:=h.le4;have c:=xI (s:=s) (mp:=jp!) (fg:=yS 0 1) (ft:=dn! dGt 1 A!) (fe:=dL! r! u!) (λp:Int×Nat=>gT! (cU! p.2 p.1)) (λp=>pD (p.1,p.2)) (λp=>eu! 0 p.1) (λp=>[e! p.2,e! p.1]) (enP v) (z9W (vr h1)) (λp _=>by rfl) (λp _=>by rfl) (λp _ _=>by rfl) (by simp[enP,cap];lia);have em:List.map (λp:Int×Nat=>pD (p.1,p.2)) (mY! (enP v) (eu! 0 p.1))=(zbp v).map pD:=by simp[zbp,_N]
 rw[em]at c;rw[qQ,zR,yF c,e];rfl
theorem z7K{v:h!}{k:Nat}{kE:jY!}{f:FE}{ρ:Ev}{s:Sto}(hf:ay!=bw! (nL (k::kE))):hF! f A! ρ s=v! k:=by
 rw[yO,hf,Rb];exact kN! (_db _)
noncomputable abbrev EV(a0 a1 a2 a3 a4 a5 a6 a7 a8 a9 a10 a11 a12:fN!):Ev:=[a0,a1,a2,a3,a4,a5,a6,a7,a8,a9,a10,a11,a12]
structure LD(d:D)(v:h!):g! where
 eq:d=O!
 ix:∀(s:Sto)(i:Nat),i<z!->c9! d i s=v! b3!
 mx:∀s:Sto,vY [d] s=v! jl!
 len:∀s:Sto,yC [d] s=v! z!
theorem LD.of(h:aQ!):LD O! v:=⟨rfl,λs i hi=>jx s hi,λs=>z9c s e4!,λs=>by simp[yC,zY]⟩
section
variable {n:Nat}{v:h!}{d e:D}(h:aQ!)(D:LD d v)(he:eD!){a0 a1 a2 a3 a4 a5 a6 a7 a8 a9 a10 a11 a12:sg!}(s:Sto)
include h D
theorem zw9:z08 (EV a0 i! a2 a3 a4 a5 a6 a7 a8 a9 a10 a11 a12) s=aN! (EV a0 i! bH! a3 a4 a5 a6 a7 a8 a9 a10 a11 a12):=by
 rw[z08,zR,yF (x:=d) p!,D.len];rfl
theorem zwq:z0b (EV a0 i! bH! a3 a4 a5 a6 a7 a8 a9 a10 a11 a12) s=aN! (EV a0 i! bH! a3 dG! a5 a6 a7 a8 a9 a10 a11 a12):=by
 have l4:=h.le4;obtain⟨kE,e⟩:=zf8 (w:=v) (kW! e4!) (λi=>jb! b3! jl!) (λi _=>rfl);have c:=xI (s:=s) (mp:=F! 1) (fg:=yh 1) (ft:=hs! dEq (ax! 0 1) (a8! vY)) (fe:=r!) (λi:Nat=>kh! i) (λi:Nat=>kh! i) (λi=>jb! b3! jl!) (λi=>[i!,cq!]) pY! (qZ (n:=v.length) (ρ:=EV a0 i! bH! a3 a4 a5 a6 a7 a8 a9 a10 a11 a12) (ar:=b9! 2) (by lia) (by rfl)) (λi _=>by rfl) (eH! (by simp only[vw,yO,ym,yj,zq,zL,_c,_e,Rb,(D.ix s i (by simpa using hi)),(D.mx s),zbK])) (λi _ _=>by rfl) (by simp[cap];lia);rw[e]at c;rw[z0b,zR,z7K (v:=v) c];rfl
end
def zlH(v:h!):Rl->D
 | .al=>c! (lp v) | .tu=>cu! | _=>aA!
theorem zuV(r:Rl)(s:Sto):dEq by! lh! s=fo! (r=.le):=by
 rw[Pg.eq_str (ziq r) (by decide +kernel)];congr 2;cases r<;>decide +kernel
theorem zsp(r:Rl)(s:Sto):dEq by! lo! s=fo! (r=.nx):=by
 rw[Pg.eq_str (ziq r) (by decide +kernel)];congr 2;cases r<;>decide +kernel
structure RD(e:D)(r:Rl):g! where
 eq:e=by!
 le:∀s:Sto,dEq e lh! s=fo! (r=.le)
 nx:∀s:Sto,dEq e lo! s=fo! (r=.nx)
 tu:∀s:Sto,dEq e (aD! gn!) s=fo! (r=.tu)
 in_:∀s:Sto,zb0 q! e (n! [lo!,lh!]) s=fo! (r=.nx\/r=.le)
theorem RD.of(r:Rl):RD by! r:=⟨rfl,zuV r,zsp r,ziD r,λs=>by cases r<;>rfl⟩
section
variable {n:Nat}{v:h!}{d e:D}(h:aQ!){a0 a1 a2 a3 a4 a5 a6 a7 a8 a9 a10 a11 a12:sg!}(s:Sto){qs:jk! Int}
theorem zwp{r:Rl} {m:Int} {kE:jk! Int} (E:RD e r) (hq:qs=(m,j! (lp v))::kE):kY (EV l! a1 a2 d9! a4 a5 a6 a7 a8 a9 a10 a11 a12) s=aN! (EV l! a1 a2 d9! a4 (b! (zlH v r)) a6 a7 a8 a9 a10 a11 a12):=by
 have i1:c9! (X! sU!) 0 s=k! (pD (m,(lp v))):=by
  rw[hq];exact kN! (_db _)
 have i2:c9! (pD (m,(lp v))) 1 s=v! (lp v):=jx (r:=[m,(lp v)]) (j:=1) s (by simp);have hg:(an! (nmR r=jx!) (aP! (lp v)) (an! (nmR r=gn!) cu! aA!))=zlH v r:=by
  cases r;·rfl
  ·rfl
  ·rfl
  ·rfl
 rw[kY,zR,(show zgL jx! gn! (co! (hG! 3) ah!) A! u! (EV l! a1 a2 d9! a4 a5 a6 a7 a8 a9 a10 a11 a12) s=k! (zlH v r) from by
  unfold zgL;rw[yO,yO,vr (d:=X! sU!) rfl,Rb,qE,Rb,i1,Rb,qE,Rb,i2,Rb,qE,Rb,vr (d:=e) rfl,Rb,E.eq];simp only;rw[hg])];rfl
theorem zgS(g:Int×Int->D)(fe:FE)(ph:∀a:Int×Int,fe [dG!,e! a.1,e! a.2] s=k! (g a))(hl:kg!<=4): zt kO! (dE! 4) (yS 1 2) (ev! 2 u!) fe (EV a0 a1 a2 d9! dG! a5 a6 a7 a8 a9 a10 a11 a12) s = bw! ((rG! (cz! a.2 (j! bd!))).map g):= xI (s:=s) pD g (λa=>cz! a.2 bd!) (λa=>[dG!,e! a.1,e! a.2]) qs (jy p!) (λa _=>by rfl) (λa _=>by simp) (λa _ _=>ph a) (by simp[cap];lia)
variable (he:eD!)(hm:∀a,a∈qs ↔ a∈zbp v)(pw:qs.Pairwise λa b=>Dd.lexLt a b=d!)(hl:kg!<=4)
include h he hm pw
theorem zjB:∃kE,(rG! (cz! a.2 (j! bd!)))=(jh! c3!,aa! (lp c3!))::kE:= zeD (z7o h) (kG h he) (λa=>by rw[z85 h,<- hm];simp) (pw.filter _)
theorem zoF:(rG! (cz! a.2 (j! bd!))).map sr!≠[]/\kf! ((rG! (cz! a.2 (j! bd!))).map sr!)=hv!/\0<hv!:= zo6 (z7o h) (kG h he) (λa=>by rw[z85 h,<- hm];simp)
include hl
theorem zwy:z0s (EV a0 a1 a2 d9! dG! a5 a6 a7 a8 a9 a10 a11 a12) s=aN! (EV a0 a1 a2 d9! dG! (e! (aa! (lp c3!))) a6 a7 a8 a9 a10 a11 a12):=by
 obtain⟨kE,e⟩:=zjB h he hm pw;have c:=zgS (v:=v) (a0:=a0) (a1:=a1) (a2:=a2) (a5:=a5) (a6:=a6) (a7:=a7) (a8:=a8) (a9:=a9) (a10:=a10) (a11:=a11) (a12:=a12) s (λa=>c! a.2) P! (λa=>p!) hl;rw[e]at c;rw[z0s,zR,yO,c,Rb,qE,Rb,wO (d:=c! (lp c3!)) (_db _) rfl];rfl
theorem zwG:z07 (EV a0 a1 a2 d9! dG! a5 a6 a7 a8 a9 a10 a11 a12) s=aN! (EV a0 a1 a2 d9! dG! a5 (e! hv!) a7 a8 a9 a10 a11 a12):=by
 obtain⟨ne,e,_⟩:=zoF h he hm pw;have c:=zgS (v:=v) (a0:=a0) (a1:=a1) (a2:=a2) (a5:=a5) (a6:=a6) (a7:=a7) (a8:=a8) (a9:=a9) (a10:=a10) (a11:=a11) (a12:=a12) s (λa=>c! a.1) r! (λa=>p!) hl;rw[(show ((rG! (cz! a.2 (j! bd!))).map λa=>aP! a.1)=iL ((rG! (cz! a.2 (j! bd!))).map sr!) from by simp[_N])]at c;rw[z07,zR,yF c,zpL s ne,e];rfl
omit pw hl hm
theorem zvY(D:LD d v):z0d (EV a0 i! bH! a3 dG! a5 (e! hv!) a7 a8 a9 a10 a11 a12) s = aN! (EV a0 i! bH! a3 dG! (e! (aa! ((c3!).idxOf hv!))) (e! hv!) a7 a8 a9 a10 a11 a12):=by
 have l4:=h.le4;have ol:=wL e4!;have pos:0<hv!:=by
  obtain⟨y,hy⟩:=List.exists_mem_of_ne_nil _ (kG h he);obtain⟨y1,y2⟩:=qD.mp hy;have:=z7o h y y1;have:=maxL_ge (xs:=c3!) y y1;lia
 obtain⟨kE,e⟩:=zf8 (w:=c3!) (kW! (λz=>by rw[z]at ol;simp at ol;lia)) (λi=>jb! b3! hv!&&cz! i bd!) (λi _=>by
  rw[uK e4!];by_cases q:i=bd!
  ·simp only[q,_v,ne_eq,not_true_eq_false,_cG,_cZ];symm;simp;lia
  ·simp[q]);rw[ol]at e;have c:=xI (s:=s) (mp:=fv! 6 4 1) (fg:=yh 3) (ft:=zlT (hs! dEq (ax! 2 3) u!) (ev! 3 r!)) (fe:=bp!) (λi:Nat=>kh! (i:Nat)) (λi:Nat=>kh! (i:Nat)) (λi=>jb! b3! hv!&&cz! i bd!) (λi=>[e! hv!,e! (j! bd!),i!,fh! i]) pY! (qZ (n:=v.length) (ρ:=EV a0 i! (fh! z!) a3 (e! (j! bd!)) a5 (e! hv!) a7 a8 a9 a10 a11 a12) (ar:=b9! 2) (by lia) (by rfl)) (λi _=>by rfl) (eH! (by
   have e1:=D.ix s i (by simpa using hi);have e3:bl! (eM! i≠j! bd!)=cz! i bd!:=by
    by_cases q:i=bd!;·simp[q]
    ·simp[q,(show ¬ j! i=j! bd! from by lia)]
   simp only[zj3,vw,yO,ym,_c,_e,Rb,e1,zbK,z5x,e3];cases jb! b3! hv!<;>rfl)) (λi _ _=>by rfl) (by simp[cap];lia);rw[e]at c;rw[z0d,zR,z7K (v:=v) c];rfl
omit he
theorem ztM(b:Nat):uP (EV a0 a1 bH! a3 a4 bc! a6 a7 a8 a9 a10 a11 a12) s=aN! (EV a0 a1 bH! a3 a4 bc! a6 (aL! (nL (wX v b))) a8 a9 a10 a11 a12):=by
 have l4:=h.le4;rw[uP,zR,(xI (s:=s) (mp:=F! 5) (fg:=yh 1) (ft:=ev! 1 u!) (fe:=r!) (λi:Nat=>kh! (i:Nat)) (λi:Nat=>kh! (i:Nat)) (λi=>cz! i b) (λi=>[fh! b,fh! i]) pY! (qZ (n:=v.length) (ρ:=EV a0 a1 (e! (j! z!)) a3 a4 (fh! b) a6 a7 a8 a9 a10 a11 a12) (ar:=b9! 2) (by lia) (by rfl)) (λi _=>by rfl) (eH! (by
   have e3:bl! (eM! i≠j! b)=cz! i b:=by
    by_cases q:i=b;·simp[q]
    ·simp[q,(show ¬ j! i=j! b from by lia)]
   simp only[vw,yO,ym,_c,_e,Rb,z5x,e3])) (λi _ _=>by rfl) (by simp[cap];lia))];rfl
end
theorem zl7(n:Nat):hW! n [aP! 0]=iL (mv! n 0):=by induction n with
 | zero=>rfl | succ n ih=>simp[_aR,ih]
theorem znH(ha:gM! s=k! (.loc L))(hb:fb ρ s=ba! x)(at_:G! s2 L xs)(hl:w!<fF!)(hx:x.flat=d!):wq (zdv fa fb) ρ s=H! ρ (oo! L (xs++[x])):=by
 rw[z1s,z9y,ha,Rb];simp only;rw[hb,Rb];simp only[at_];rw[bS! hx (by simp[cap];lia)];rfl
theorem z3f(h:t ρ s=ky!):fIf t f g ρ s=ay!:=by rw[kI,h,Rb,gD!]
section
variable {n m:Nat}{v:h!}{d e:D}(h:fy!)(D:LD d v)(hm:m<=hV!){a0 a1 a2 a3 a4 a5 a6 a7 a8 a9 a10 a11 a12:sg!}(s:Sto){b:Nat}(hb:b<z!)
include h hm in
theorem zlD{i:Nat}(hi:i<z!):0<=b3!/\b3!<2 ^ bK!:=by
 refine⟨h.nn _ (rg! hi),_cY (h.bd _ (rg! hi)) ?_⟩;have:eM! 2 ^ m<=2 ^ bK!:=_B (by decide) (by lia);have:=Int.ofNat_le.mpr iV!;simpa using this
include h in
theorem zul:wc (EV a0 a1 bH! a3 a4 a5 a6 a7 a8 a9 a10 a11 a12) s=H! (EV a0 a1 bH! a3 a4 a5 a6 a7 (bG! (t! (s++[[k7!]]))) a9 a10 a11 a12) ((s++[[k7!]])++bI! (l3! 0)):=by
 have l4:=h.toLot.le4;have e0:zaQ (a0! A!) (EV a0 a1 bH! a3 a4 a5 a6 a7 a8 a9 a10 a11 a12) s=gE! (s++[[k7!]]):=by
  simp only[z7S,zq,zL,qE,Rb];rw[bS! (by simp[cap]) (yQ [0])]
 have e1:zfr l1! (c! z!) (s++[[k7!]])=.ok (.loc (t! (s++[[k7!]]))) ((s++[[k7!]])++bI! (l3! 0)):=by
  have lo:Dd.listOf (s++[[k7!]]) l1!=b! [k7!]:=by simp[Dd.listOf]
  simp only[zfr,lo,_W,zl7];rw[_g ⟨by simp[cap];lia,by lia,by lia,yQ _⟩]
 rw[wc,zR,yO,e0,Rb,vr (d:=c! z!) rfl,Rb,e1];rfl
include h D hm hb
theorem zoa{S0:Sto} {all:em! Dd.D}:∀(ps:List Nat) (xs:List Int) (p9:Option Dd.D),(∀i∈ps,i<z!)->w!=z!-> ∃dP,yT [] all (eO! (yh 9 d ρ s) (xW ρ' s')) (nL ps) (EV a0 i! a2 a3 a4 bc! a6 a7 p4! p9 a10 a11 a12) (S0++bI! xs) = H! (EV a0 i! a2 a3 a4 bc! a6 a7 p4! dP a10 a11 a12) (S0++bI! (an! (0<fU!) (zgW v fU! ps xs) xs))
 | [],xs,p9,_,_=>⟨p9,by simp[yT,okG,zgW]⟩ | i::ps,xs,p9,hi,hl=>by
  have i0:=hi i iA!;have B:=zlD h hm hb;have gw:=D.ix (S0++bI! xs) b hb;have pj:=D.ix (S0++bI! xs) i i0;have cX:tOf (eOp dGt (ax! 1 5) A!) (EV a0 i! a2 a3 a4 bc! a6 a7 p4! cq! a10 a11 a12) (S0++bI! xs)=.ok (eu! 0 fU!) (S0++bI! xs):=by simp only[vw,yO,ym,qE,_c,_e,Rb,gw,zsX]
  by_cases q:0<fU!
  ·obtain⟨dP,ih⟩:=zoa (S0:=S0) (all:=all) ps (iL! i (b3! / fU!)) cq! (λj hj=>hi j (.tail _ hj)) (by simpa using hl);refine as! dP ?_;have body:xW (EV a0 i! a2 a3 a4 bc! a6 a7 p4! cq! a10 a11 a12) (S0++bI! xs)=H! (EV a0 i! a2 a3 a4 bc! a6 a7 p4! cq! a10 a11 a12) (S0++bI! (iL! i (b3! / fU!))):=by
    rw[xW,z3f (by rw[cX];simp only[q,_dj]),z2d];rw[z6o (s1:=S0++bI! xs) (s2:=S0++bI! xs) (L:=S0.length) (xs:=xs) (i:=j! i) (x:=b3! / fU!) (by
     rw[yO,op2 (x:=d) (y:=U!) p! p!,pj,Rb,op2 (x:=d) (y:=fe!) p! p!,gw];exact zhL _ q B.2) p! p! (by simp) (by lia) (by lia)];simp
   rw[show nL (i::ps)=kh! i::nL ps from rfl,yT,_g (by intro p hp;cases hp),vX,Rb];simp only[_L,_F];rw[body,Rb];simp only;rw[ih];simp only[q,_v];rfl
  ·obtain⟨dP,ih⟩:=zoa (S0:=S0) (all:=all) ps xs cq! (λj hj=>hi j (.tail _ hj)) hl;refine as! dP ?_;rw[show nL (i::ps)=kh! i::nL ps from rfl,yT,_g (by intro p hp;cases hp),vX,Rb];simp only[_L,_F];rw[(show xW (EV a0 i! a2 a3 a4 bc! a6 a7 p4! cq! a10 a11 a12) (S0++bI! xs)=H! (EV a0 i! a2 a3 a4 bc! a6 a7 p4! cq! a10 a11 a12) (S0++bI! xs) from by
    rw[xW,zdz (by rw[cX];simp only[q,_cG])];rfl),Rb];simp only;rw[ih];simp only[q,_aV]
omit h D hm
theorem zhp(Q:h!)(hQ:pP!=z!)(z:Int):((enP v).map λp:Int×Nat=>kh! (p.1-jd! p.2*z))=iL (oC! (λx q=>x-q*z) v Q):=by
 apply _aM;·simp[enP,hQ]
 ·intro i h1 h2;simp[enP,_n,hQ,(by simpa[enP] using h1)]
include h D hm
theorem zuz{Q:h!} {L:Nat} (hs:G! s L (iL Q)) (hQ:pP!=z!) (hq:∀q∈Q,0<=q/\q<2 ^ m): xX (EV a0 i! a2 a3 a4 bc! a6 a7 (bG! L) a9 a10 a11 a12) s=aN! (EV a0 i! a2 a3 a4 bc! a6 a7 (bG! L) a9 (b! (bN! (cH! Q b))) a11 a12):=by
 have l4:=h.toLot.le4;have B:=zlD h hm hb;have gw:=D.ix s b hb;have c:=comp_map (s:=s) (mp:=[b! 8,b! 1,b! 5,a!,a!]) (fg:=yS 3 4) (fe:=kK! 4 (gF! (ax! 0 3) (ax! 1 2))) (λp:Int×Nat=>Dd.D.tup (cU! p.2 p.1)) (λp=>kh! (p.1-jd! p.2*fU!)) (λp=>[bG! L,i!,bc!,e! p.2,e! p.1]) (enP v) (z9W (f:=r!) (ρ:=EV a0 i! a2 a3 a4 bc! a6 a7 (bG! L) a9 a10 a11 a12) (by rw[<- D.eq];exact p!)) (λp _=>by rfl) (bs! (by
   have hi:p.2<pP!:=by rw[hQ];exact cV! (zdJ.mp hp)
   have e1:=zbg (s:=s) (l:=L) (i:=p.2) (d:=c! (jd! p.2)) hs (by lia) (by simp[_n,hi]);have q1:=hq _ (rg! hi);rw[yO,vr (d:=c! p.1) rfl,Rb,yO,op2 (x:=.loc L) (y:=c! (p.2:Nat)) p! p!,e1,Rb,op2 (x:=d) (y:=c! (b:Nat)) p! p!,gw,Rb,z1u s q1.1 (_cY q1.2 (by
    have:2 ^ m<=2 ^ bK!:=_B (by decide) (by lia);simpa using (Int.ofNat_le.mpr iV!))) B.1 B.2];rfl)) (by simp[enP,cap];lia);rw[zhp hb Q hQ]at c;rw[xX,zR,c];rfl
end
theorem z7T{α:bD!} (g f:α->D)(ev:α->Ev)(l:et!) (hi:fi ρ s=k! (kA!,[]))(hg:∀a∈l,fg (g a) jw! s=k! (ev a))(he:∀a∈l,fe (ev a) s=k! (f a))(hl:hT!<=cap)(hf:dj! m4!): z1U fi mp fg zU fe ρ s=gE! (s++[m4!]):=by
 rw[zee,uH,hi,Rb,z38 g f (bk! d!) l [] (by
  intro a ha;simp only[hg a ha,Rb];simp[he a ha]) (by simpa using hl),(_bO.mpr (by simp))];simp only[_aw,Rb];rw[_g hf]
theorem ze7(xs:x!)(k:Nat):cutD xs a! (b! (j! k))=nj! k:=by simpa[dSl] using (z2p xs k [])
theorem z6c(xs:x!)(k:Nat):cutD xs (b! (j! k)) a!=lB! k:=by simpa[dSl] using (z2x xs k [])
theorem zbt(hb:b<line.length)(q:Int):qr b line q=line.set b (line.getD b 0+q):=by
 unfold qr;rw[_b1,_g hb];simp
noncomputable def xy(n i:Nat):h!:=aT! n (λc=>ak! i c 1 0)
theorem zmc(hx:G! ρ k fd!)(hl:Dd.listOf s x=b! xs)(h:x=bx!\/∃l,x=db!)(hc:w!<=4):eOp xf (fg! (zd k) ah!) (gh! (zd k) ah!) ρ s=bw! (rot xs):=by
 rw[yO,zaK,vr hx,Rb,z1i,qE];simp only[Rb,jo];rw[(show dSl x (b! 1) a! s=bw! (lB! 1) from by
  rcases h with rfl | ⟨l,rfl⟩;·exact _au (λz=>eG! (D.lst z) s) (z6c xs 1)
  ·simp only[dSl,hl];exact _au (λz=>eG! (D.lst z) s) (z6c xs 1)),Rb,zaK,vr hx];simp only[Rb,jo,z1i,qE];rw[(show dSl x a! (b! 1) s=bw! (nj! 1) from by
  rcases h with rfl | ⟨l,rfl⟩;·exact _au (λz=>eG! (D.lst z) s) (ze7 xs 1)
  ·simp only[dSl,hl];exact _au (λz=>eG! (D.lst z) s) (ze7 xs 1)),Rb,z77,_g (by simp[cap];lia)];rfl
section
variable {n m:Nat}{v:h!}{d e:D}{r:Rl}(h:fy!)(E:RD e r){a0 a1 a2 a3 a4 a5 a6 a7 a8 a9 a10 a11 a12:sg!}{b:Nat}(hb:b<z!){Q:h!}(hQ:pP!=z!)
include h E hb hQ
theorem ztW{S:Sto} {L i:Nat} (hL:G! S L (iL Q)) (hi:i<z!) (A:x!) (hA:q9!<fF!) (J:Sto) (cY:fN!): ∃J' dQ,(zy wZ (a6! vg vd vh)) (EV l! a1 bH! a3 a4 bc! a6 a7 (bG! L) cq! a10 jS! cY) (S++A::J) = H! (EV l! a1 bH! a3 a4 bc! a6 a7 (bG! L) cq! a10 jS! dQ) (S++(A++[rD (hi! (qr b fT! (jd! i)))])::J'):=by
 have l4:=h.toLot.le4;have ln:t! fT!=z!:=by simp[xy]
 have em:(aT! z! (λc:Nat=>aP! (ak! i c 1 0)))=iL fT!:=by simp[xy,_N]
 have c:=z7T (s:=S++A::J) (mp:=F! 9) (fg:=yh 1) (fe:=aM! ze9 (dz! dEq 0 r!)) (λc:Nat=>aP! (aa! c)) (λc:Nat=>aP! (ak! i c 1 0)) (λc=>[cq!,e! (aa! c)]) pY! (qZ (n:=v.length) (ρ:=EV l! a1 bH! a3 a4 bc! a6 a7 (bG! L) cq! a10 jS! cY) (ar:=b9! 2) (by lia) (by rfl)) (λc _=>by rfl) (λc _=>by
   by_cases q:i=c;·simp[ze9,q]
   ·have:¬ j! i=j! c:=by lia
    simp[ze9,q,this]) (by simp[cap];lia) (by rw[em];exact yQ _);rw[em]at c;have lL:wZ (EV l! a1 bH! a3 a4 bc! a6 a7 (bG! L) cq! a10 jS! cY) (S++A::J) = H! (EV l! a1 bH! a3 a4 bc! a6 a7 (bG! L) cq! a10 jS! (bG! (t! (S++A::J)))) ((S++A::J)++bI! fT!):=by
  rw[wZ,zR,c];rfl
 have aT:G! ((S++A::J)++bI! fT!) (t! (S++A::J)) (iL fT!):=by simp
 have aL:G! ((S++A::J)++bI! fT!) L (iL Q):=by rw[_b6,_H (cV! hL),hL]
 have i1:=zbg (i:=j! b) (d:=c! (bg! fT! b)) aT (by lia) (by simp[_n,ln,hb]);have i2:=zbg (i:=j! i) (d:=c! (jd! i)) aL (by lia) (by simp[_n,hQ,hi]);have iM:((S++A::J)++bI! fT!).set (t! (S++A::J)) (iL ((fT!).set (j! b).toNat (bg! fT! b+jd! i)))=(S++A::J)++bI! (qr b fT! (jd! i)):=by
  rw[zbt (by rw[ln];exact hb)];simp
 have lM:vg (EV l! a1 bH! a3 a4 bc! a6 a7 (bG! L) cq! a10 jS! (bG! (t! (S++A::J)))) ((S++A::J)++bI! fT!) = H! (EV l! a1 bH! a3 a4 bc! a6 a7 (bG! L) cq! a10 jS! (bG! (t! (S++A::J)))) ((S++A::J)++bI! (qr b fT! (jd! i))):=by rw[vg,z6o (s1:=(S++A::J)++bI! fT!) (s2:=(S++A::J)++bI! fT!) (L:=t! (S++A::J)) (xs:=fT!) (i:=j! b) (x:=bg! fT! b+jd! i) (by
   rw[yO,op2 (x:=.loc (t! (S++A::J))) (y:=fe!) p! p!,i1,Rb,op2 (x:=.loc L) (y:=U!) p! p!,i2,Rb];rfl) p! p! aT (by lia) (by lia),iM]
 have pq:t! (iL (qr b fT! (jd! i)))<=4:=by
  rw[zbt (by rw[ln];exact hb)];simp[ln];lia
 generalize hW:iL (qr b fT! (jd! i))=W at *;have ot:=E.tu ((S++A::J)++[W]);have aA:G! ((S++A::J)++[W]) rj! A:=by simp
 have fin:∀(x:D) (row:List Int),x.flat=d!->x=rD row->∀ ρ:Ev,G! ρ 11 jS!->(∃y,G! ρ 12 (b! y)/\zV [y] ((S++A::J)++[W])=.ok x ((S++A::J)++[W]))->vh ρ ((S++A::J)++[W])=H! ρ (S++(A++[x])::(J++[W])):=λx row fx hx ρ fZ ⟨y,pr,g⟩=>by
  rw[vh,znH (s2:=(S++A::J)++[W]) (L:=S.length) (xs:=A) (x:=x) (vr fZ) (by rw[yF (vr pr)];exact g) aA hA fx];have iN:((S++A::J)++[W]).set rj! (A++[x])=S++(A++[x])::(J++[W]):=by simp
  rw[iN]
 by_cases q:r=.tu
 ·refine⟨J++[W],aL! (rot W),?_⟩;rw[zm lL,zm lM,zm (by
   rw[vd,z3f (by rw[vw,op2 (x:=e) (y:=aD! gn!) p! rfl,ot];simp[q]),z2f,zR,zmc (x:=.loc (t! (S++A::J))) (xs:=W) (k:=12) rfl (by simp[Dd.listOf]) (ew! _ rfl) pq];rfl)];have e1:rD (hi! (qr b fT! (jd! i)))=n! (rot W):=by
   rw[q,zaY,<- hW];simp[rot,_co,_aU]
  rw[e1];exact fin (n! (rot W)) _ (by rw[<- e1];exact yQ _) e1.symm _ rfl (aH! _ (z2a _ _))
 ·refine⟨J++[W],bG! (t! (S++A::J)),?_⟩;rw[zm lL,zm lM,zm (by
   rw[vd,zdz (by rw[vw,op2 (x:=e) (y:=aD! gn!) p! rfl,ot];simp[q])];rfl)];have e1:rD (hi! (qr b fT! (jd! i)))=n! W:=by rw[z9a q,<- hW]
  rw[e1];exact fin (n! W) _ (by rw[<- e1];exact yQ _) (by rw[<- e1]) _ rfl (aH! _ (by simp[zV,zY]))
end
noncomputable def zdI(r:Rl)(b n:Nat)(Q:h!)(i:Nat):D:=rD (hi! (qr b (xy n i) (jd! i)))
theorem zil(r:Rl)(b:Nat)(Q:h!):tD (z87 r b Q)=n! (aT! pP! (zdI r b pP! Q)):=by
 show gT! _=gT! _;congr 1;apply _aM;·simp[z87,one]
 ·intro i h1 h2;simp[z87,one,zdI,xy,(by simpa using h2)]
section
variable {n m:Nat}{v:h!}{d e:D}{r:Rl}(h:fy!)(E:RD e r){a0 a1 a2 a3 a4 a5 a6 a7 a8 a9 a10 a11 a12:sg!}{b:Nat}(hb:b<z!){Q:h!}(hQ:pP!=z!)
include h E hb hQ
theorem zrH{S:Sto} {L:Nat} {all:x!} (hL:G! S L (iL Q)):∀(k j:Nat) (J:Sto) (p9 cY:Option D),j+k=z!-> ∃J' dP dQ,yT [] all (eO! (yh 9 d ρ s) ((zy wZ (a6! vg vd vh)) ρ' s')) ((os! j k).map λi=>aP! (aa! i)) (EV l! a1 bH! a3 a4 bc! a6 a7 (bG! L) p9 a10 jS! cY) (S++(aT! j (kt! r b Q))::J) = H! (EV l! a1 bH! a3 a4 bc! a6 a7 (bG! L) dP a10 jS! dQ) (S++(aT! (j+k) (kt! r b Q))::J')
 | 0,j,J,p9,cY,_=>⟨J,p9,cY,by simp[yT,okG]⟩ | k+1,j,J,p9,cY,hj=>by
  have l4:=h.toLot.le4;obtain⟨J1,gx,e1⟩:=ztW (a1:=a1) (a3:=a3) (a4:=a4) (a6:=a6) (a7:=a7) (a10:=a10) h E hb hQ hL (i:=j) (by lia) (aT! j (kt! r b Q)) (by simp;lia) J cY;obtain⟨J2,q9,pv,e2⟩:=zrH hL k (j+1) J1 aO! gx (by lia);refine ck! J2 q9 pv ?_;rw[(show aT! j (kt! r b Q)++[rD (hi! (qr b (xy z! j) (jd! j)))]=aT! (j+1) (kt! r b Q) from by
   rw[List.range_succ,_cu];rfl)]at e1;rw[List.range'_succ,_u,yT,_g (by intro p hp;cases hp),vX,Rb];simp only[_L,_F];rw[e1,Rb];simp only;rw[e2,show j+1+k=j+(k+1) by lia]
theorem ztI(D:LD d v) (hm:m<=hV!) {ps:jY!} (dN:∀i∈ps,i<z!) (hq:∀q∈Q,0<=q/\q<2 ^ m) (eQ:(an! (0<fU!) (zgW v fU! ps (l3! 0)) (l3! 0))=Q) (s:Sto): ∃s',(a6! wc qd (dB! xX vf wa xV wd)) (EV l! i! bH! a3 a4 bc! a6 (aL! (nL ps)) a8 a9 a10 a11 a12) s = bz! (.rt (n! [rD (hi! (cH! Q b)),tD (z87 r b Q)]))/\s'.take aW!=s:=by
 have l4:=h.toLot.le4;have f13:=zul (a0:=l!) (a1:=i!) (a3:=a3) (a4:=a4) (a5:=e! (j! b)) (a6:=a6) (a7:=aL! (nL ps)) (a8:=a8) (a9:=a9) (a10:=a10) (a11:=a11) (a12:=a12) h s;obtain⟨p9,f14⟩:=zoa (a0:=l!) (a2:=fh! z!) (a3:=a3) (a4:=a4) (a6:=a6) (a7:=aL! (nL ps)) (a10:=a10) (a11:=a11) (a12:=a12) h D hm hb (S0:=s++[[k7!]]) (all:=nL ps) ps (l3! 0) a9 dN (by simp);rw[eQ]at f14;generalize hS:(s++[[k7!]])++bI! Q=S at *;have hL:G! S (t! (s++[[k7!]])) (iL Q):=by rw[<- hS];simp
 have bZ:s <+: S:=by
  rw[<- hS,_b6];exact List.prefix_append _ _
 generalize hLL:t! (s++[[k7!]])=L at *;have f17:=zuz (a0:=l!) (a2:=fh! z!) (a3:=a3) (a4:=a4) (a6:=a6) (a7:=aL! (nL ps)) (a9:=p9) (a10:=a10) (a11:=a11) (a12:=a12) h D hm S hb hL hQ hq;have f18:vf (EV l! i! (fh! z!) a3 a4 (fh! b) a6 (aL! (nL ps)) (bG! L) p9 (b! (bN! (cH! Q b))) a11 a12) S = H! (EV l! i! (fh! z!) a3 a4 (fh! b) a6 (aL! (nL ps)) (bG! L) p9 (b! (bN! (cH! Q b))) jS! a12) (S++(aT! 0 (kt! r b Q))::[]):=by rfl
 obtain⟨J,q9,gx,lN⟩:=zrH (a1:=i!) (a3:=a3) (a4:=a4) (a6:=a6) (a7:=aL! (nL ps)) (a10:=b! (bN! (cH! Q b))) h E hb hQ (all:=aT! z! (λi:Nat=>kh! (i:Nat))) hL v.length 0 [] p9 a12 (by lia);have lO:wa (EV l! i! (fh! z!) a3 a4 (fh! b) a6 (aL! (nL ps)) (bG! L) p9 (b! (bN! (cH! Q b))) jS! a12) (S++(aT! 0 (kt! r b Q))::[]) = H! (EV l! i! (fh! z!) a3 a4 (fh! b) a6 (aL! (nL ps)) (bG! L) q9 (b! (bN! (cH! Q b))) jS! gx) (S++(aT! (0+z!) (kt! r b Q))::J):=by
  rw[wa,jP,qZ (n:=v.length) (s1:=S++(aT! 0 (kt! r b Q))::[]) (by lia) (by rfl)];rw[List.range_eq_range']at lN ⊢;exact lN
 rw[_at]at lO;have aM:G! (S++(aT! z! (kt! r b Q))::J) rj! (aT! z! (kt! r b Q)):=by simp
 refine⟨S++(aT! z! (kt! r b Q))::J,?_,?_⟩
 ·generalize hT:S++(aT! z! (kt! r b Q))::J=T at *;have ot:=E.tu T;have fin:∀w:List Int,wd (EV l! i! bH! a3 a4 bc! a6 (aL! (nL ps)) (bG! L) q9 (b! (bN! w)) jS! gx) T=.ok (.rt (n! [rD w,tD (z87 r b Q)])) T:=λw=>by
   have e2:zV [.loc rj!] T=.ok (tD (z87 r b Q)) T:=by
    rw[zil,hQ];simp only[zV,zY,aM]
   rw[wd,yf,z1Q,zq,yF (x:=bN! w) p!,(z2a _ _),Rb,zq,yF (x:=.loc rj!) p!,e2,Rb,zL];simp only[Rb];rw[_g (by simp[cap])];rfl
  rw[zm f13,zm (by exact f14),zm f17,zm f18,zm lO];have lw:t! (cH! Q b)=z!:=by simp[left,hQ]
  by_cases q:r=.tu
  ·rw[zm (by
    have e3:rot (iL (cH! Q b))=iL (hi! (cH! Q b)):=by
     rw[q,zaY];simp[rot,_co,_aU]
    rw[xV,z3f (by rw[vw,op2 (x:=e) (y:=aD! gn!) p! rfl,ot];simp[q]),z23,zR,zmc (x:=bN! (cH! Q b)) (xs:=iL (cH! Q b)) (k:=10) rfl (by rfl) c7! (by simp[lw];lia),e3];rfl)];exact fin _
  ·rw[zm (by
    rw[xV,zdz (by rw[vw,op2 (x:=e) (y:=aD! gn!) p! rfl,ot];simp[q])];rfl),z9a q];exact fin _
 ·obtain⟨t,rfl⟩:=bZ;simp
end
theorem zka(w:h!)(T:Tb):(gT! [rD w,tD T]).flat=d!:=by
 have h1:(rD w).flat=d!:=yQ _;show ((rD w).flat&&((tD T).flat&&sq! []))=d!;rw[h1,(show (tD T).flat=d! from by
  show dj! nL!;induction T with
  | nil=>rfl | cons r T ih=>
   show ((rD r).flat&&sq! nL!)=d!;rw[ih,Bool.and_true];exact yQ r)];rfl
section
variable {n m:Nat}{v:h!}(r:Rl)(h:fy!)(he:eD!)(hm:m<=hV!)
include h he hm
theorem zn2(s:Sto):jj [by!,O!] s=a7! [rD dI!,tD fX!]:=by
 have key:hU! (LD d v->RD e r->jj [e,d] s=a7! [rD dI!,tD fX!]):=λd e D E=>by
  have l4:=h.toLot.le4;have st:zv [f1!,bP!,f0!,"_law_order",nx!,oA!,q5!,hp!,ny!,eJ!,oB!,"_law_lines",gt!] [e,d]=EV l! i! a! a! a! a! a! a! a! a! a! a! a!:=rfl;have f1:=zw9 (a0:=l!) (a2:=none) (a3:=none) (a4:=none) (a5:=none) (a6:=none) (a7:=none) (a8:=none) (a9:=none) (a10:=none) (a11:=none) (a12:=none) h.toLot D s;obtain⟨qs,f2,gy,pw⟩:=zjZ er! he (EV l! i! bH! a! a! a! a! a! a! a! a! a! a!) s (by rw[<- D.eq];rfl);have pA:qQ (EV l! i! bH! a! a! a! a! a! a! a! a! a! a!) s=aN! (EV l! i! bH! d9! a! a! a! a! a! a! a! a! a!):=f2;have ql:kg!<=4:=by
   have nd:qs.Nodup:=pw.imp λ{a b} q z=>by rw[z,zh4]at q;cases q
   have h2:=zly er! he;have:kg!<=t! (zbp v):=List.Nodup.length_le_of_subset nd λa ha=>(gy a).mp ha;lia
  have f3:=zwq (a0:=l!) (a3:=d9!) (a4:=none) (a5:=none) (a6:=none) (a7:=none) (a8:=none) (a9:=none) (a10:=none) (a11:=none) (a12:=none) h.toLot D s;obtain⟨kE,eh⟩:=zeD f2! h.toLot.nzne gy pw;have f4:=zwp (v:=v) (a1:=i!) (a2:=bH!) (a4:=dG!) (a5:=none) (a6:=none) (a7:=none) (a8:=none) (a9:=none) (a10:=none) (a11:=none) (a12:=none) s E eh;have dl:=qq r er! he;have qb:=zpK r h he;have fin:∀(a6:Option Dd.D) (ps:List Nat),(∀i∈ps,i<z!)->(an! (0<bu! aR!) (zgW v (bu! aR!) ps (l3! 0)) (l3! 0))=du!-> (a6! wJ wM (dB! uP we wc qd (dB! xX vf wa xV wd))) (EV l! i! bH! d9! dG! (b! (zlH v r)) a! a! a! a! a! a! a!) s = (a6! wc qd (dB! xX vf wa xV wd)) (EV l! i! bH! d9! dG! (e! (aa! aR!)) a6 (aL! (nL ps)) a! a! a! a! a!) s-> jj [e,d] s=a7! [rD dI!,tD fX!]:=λa6 ps dN eQ eF=>by
   obtain⟨s',et,tk⟩:=ztI (a3:=d9!) (a4:=dG!) (a6:=a6) (a8:=none) (a9:=none) (a10:=none) (a11:=none) (a12:=none) h E dl.lt (Q:=du!) (xn _ _) D hm dN qb eQ s;simp only[jj,z72,Mof,z59,st,_d,_k,_v];rw[zm f1,zm pA,zm f3,zm f4,eF,et];simp only;rw[z1F (zka _ _),tk];rfl
  have ol:=E.le s;have on:=E.nx s;have oi:=E.in_ s;have iO:r≠.le->∀x,wJ (EV l! i! bH! d9! dG! x a! a! a! a! a! a! a!) s=aN! (EV l! i! bH! d9! dG! x a! a! a! a! a! a! a!):=λq x=>by
   rw[wJ,zdz (by rw[vw,op2 (x:=e) (y:=lh!) p! rfl,ol];simp[q])];rfl
  have iP:r≠.nx->∀x,wM (EV l! i! bH! d9! dG! x a! a! a! a! a! a! a!) s=aN! (EV l! i! bH! d9! dG! x a! a! a! a! a! a! a!):=λq x=>by
   rw[wM,zdz (by rw[vw,op2 (x:=e) (y:=lo!) p! rfl,on];simp[q])];rfl
  have dj:∀(x6:Option Dd.D) (b:Nat) (z:Option Dd.D),(r=.nx\/r=.le)->we (EV l! i! bH! d9! dG! (e! (aa! b)) x6 z a! a! a! a! a!) s = aN! (EV l! i! bH! d9! dG! (e! (aa! b)) x6 (aL! (nL [bd!])) a! a! a! a! a!):=λx6 b z q=>by
   rw[we,z3f (by rw[vw,op2 (x:=e) (y:=n! [lo!,lh!]) p! rfl,oi];simp[q]),z29,zR,z26,zq,vr (d:=c! bd!) rfl];simp only[Rb,zL];rw[_g (by simp[cap])];rfl
  have fO:∀(x6:Option Dd.D) (b:Nat) (z:Option Dd.D),¬ (r=.nx\/r=.le)->we (EV l! i! bH! d9! dG! (e! (aa! b)) x6 z a! a! a! a! a!) s = aN! (EV l! i! bH! d9! dG! (e! (aa! b)) x6 z a! a! a! a! a!):=λx6 b z q=>by
   rw[we,zdz (by rw[vw,op2 (x:=e) (y:=n! [lo!,lh!]) p! rfl,oi];simp[q])];rfl
  have bV:=λ(x6:Option Dd.D) (b:Nat)=>ztM (a0:=l!) (a1:=i!) (a3:=d9!) (a4:=dG!) (a6:=x6) (a7:=none) (a8:=none) (a9:=none) (a10:=none) (a11:=none) (a12:=none) h.toLot s b;have lP:=(zdn h.toLot.ne).1;have fP:a4! (mC!).2->0<bu! aR!:=λq=>dl.pos.resolve_left q;cases hr:r with
  | nx=>
   subst hr;have p0:=fP (by simp[deal]);refine fin (e! hv!) [bd!] (by simpa using lP) (by rw[_g p0,z1J];rfl) ?_;have f7:wM (EV l! i! bH! d9! dG! (b! (zlH v .nx)) a! a! a! a! a! a! a!) s=aN! (EV l! i! bH! d9! dG! (e! (aa! (gW! .nx).1)) (e! hv!) a! a! a! a! a! a!):=by
    rw[wM,z3f (by rw[vw,op2 (x:=e) (y:=lo!) p! rfl,on];rfl),zm (zwG er! s he gy pw ql)];exact zvY er! s he D
   rw[zm (iO (by decide) _),zm f7,zm (bV _ _),zm (dj _ _ _ c7!)] | le=>
   subst hr;have p0:=fP (by simp[deal]);refine fin a! [bd!] (by simpa using lP) (by rw[_g p0,z1J];rfl) ?_;have f5:wJ (EV l! i! bH! d9! dG! (b! (zlH v .le)) a! a! a! a! a! a! a!) s=aN! (EV l! i! bH! d9! dG! (e! (aa! (gW! .le).1)) a! a! a! a! a! a! a!):=by
    rw[wJ,z3f (by rw[vw,op2 (x:=e) (y:=lh!) p! rfl,ol];rfl)];exact zwy er! s he gy pw ql
   rw[zm f5,zm (iP (by decide) _),zm (bV _ _),zm (dj _ _ _ (T! rfl))] | al=>
   subst hr;have p0:0<bu! (gW! .al).1:=by
    obtain⟨_,l2,l3⟩:=zdm h.toLot.nzne;have:=Pm.ux f2! (lp v);show 0<bu! (lp v);lia
   refine fin a! (wX v (lp v)) (eH! (uD.mp hi).1) (by rw[_g p0,z1J];rfl) ?_;rw[zm (iO (by decide) _),zm (iP (by decide) _),show zlH v .al=kh! (lp v) from rfl,zm (bV a! (lp v)),zm (fO _ _ _ (by decide))];rfl | tu=>
   subst hr;refine fin a! (wX v 0) (eH! (uD.mp hi).1) ?_ ?_
   ·by_cases q:fW!=0
    ·have e2:gW! .tu=(0,[]):=by
      show (0,ak! fW! 0 [] (wX v 0))=_;rw[_g q]
     rw[e2,_o (by show ¬ 0<fW!;lia),zhb]
    ·have e2:gW! .tu=(0,wX v 0):=by
      show (0,ak! fW! 0 [] (wX v 0))=_;rw[_o q]
     have:=Pm.ux f2! 0;rw[e2,_g (by show 0<fW!;lia),z1J]
   rw[zm (iO (by decide) _),zm (iP (by decide) _),show zlH v .tu=kh! (aa! 0) from rfl,zm (bV a! 0),zm (fO _ _ _ (by decide))];rfl
 exact key _ _ (LD.of er!) (RD.of r)
end
end Po
namespace Pn
open L2 Dd Pm Pg
theorem z4Y:LeM uG uI:=mz! (r8! LeS.fNo)
theorem zfq:LeM yc zA:=mz! (LeS.seq (ru! z4Y) (ru! z2w))
theorem zeL{M:Mir} (h:ay!=k! x)(hx:M [x] s=dW!):ze M (a0! f) ρ s=dW!:=by rw[yF h,hx]
theorem z65{M:Mir} (h:ay!=k! x)(h2:g ρ s=k! y)(hx:M [x,y] s=dW!):ze M (cc! f g) ρ s=dW!:=by rw[call2 h h2,hx]
section
variable {d y:D}{s:Sto}
theorem z8F(h:vQ [d] s=c6!):uI [d] s=.ex hk! s:=by
 have st:zv c5! [d]=cX!:=rfl;simp only[uI,kU,z3C,st,_d,_k,_v,z27,kI,vG,vw,yF (x:=d) (vr (ρ:=cX!) (i:=0) (s:=s) rfl),h,Rb];rfl
theorem zgv(h:vQ [d] s=c6!):zA [d,y] s=.ex hk! s:=by
 simp only[zA,kU,wE,st,_d,_k,_v];rw[zi3 (c:=hk!) (s':=s) (by exact zdx (zeL (x:=d) p! (z8F h)))]
theorem zl9(h:xl [y] s=c6!):zA [by!,y] s=.ex hj! s:=by
 have k:=z4Y.ok (z6S r s);exact (λd k=>by
  simp only[zA,kU,wE,st,_d,_k,_v];rw[zm (ρ':=h8! d y) (s':=s) (by rw[uj,z1s,yF (x:=d) p!,k];rfl),ut,zdx (zeL (x:=y) p! (z3r h))]:∀d:D,uI [d] s=fs!->zA [d,y] s=.ex hj! s) _ k
end
end Pn
namespace Po
open L2 Dd Pm Pg Pn
theorem zex(k:Nat) (h:dv! z!):uJ (k+1) O!:=by
 refine⟨by simp[cap];lia,ac! ?_⟩;obtain⟨y,_,rfl⟩:=gB!;cases k<;>trivial
theorem twice(x:Str)(ρ:Ev)(s:Sto):eOp zs7 (qg (a0! (bL! x))) (E! 2) ρ s=bw! [a1!,a1!]:=by rfl
theorem zpT(hx:PyData.strOk x=d!)(s:Sto):dNe (X! [a1!,a1!]) (X! [a1!,a1!]) s=c6!:= ne_self (k:=2) (by simp[okD,hx]) (by decide) s
theorem zkF(h:aQ!) (s:Sto):xE [O!] s=cb! nM!:=by
 have l4:=h.le4;exact (il! (by
  have st:zv [bP!] [d]=cX!:=rfl;have c:=xI (s:=s) (ρ:=cX!) (fi:=cW!) (mp:=[a!]) (fg:=yh 0) (ft:=dn! dGt 0 A!) (fe:=u!) D.int D.int (λx=>eu! 0 x) (λx=>[e! x]) v (qV (by rw[show gT! (v.map rT!)=d from hd.symm];exact p!)) (λx _=>by rfl) (λx _=>by rfl) (λx _ _=>by rfl) (by simp[cap];lia);have e:v.filter (λx=>eu! 0 x)=nz v:=by
   refine List.filter_congr (ac! ?_);have:=h.nn x hx;by_cases q:x=0;·simp[q]
   ·simp[q,(show 0<x from by lia)]
  rw[e]at c;have lb:bl! (j! (hy! v)=1)=nM!:=by
   unfold ended;by_cases e:hy! v=1;·simp[e]
   ·simp[e,(show ¬ j! (hy! v)=1 from by lia)]
  simp only[xE,Mof,z3B,st,_d,_k,_v,z2c,yf,yO,yF c,yC,zY,Rb,qE,zbK,_z,lb]):∀d:D,d=O!->xE [d] s=cb! nM!) _ rfl
noncomputable def rls:em! Rl:=[.al,.le,.nx,.tu]
theorem zjQ(s:Sto):jF [] s=bw! (rls.map λr=>D.str (nmR r)):=by rfl
open PySem.Builtin.Str
noncomputable def noR(r:Rl):x!:=[aD! (Txt.upper (nmR r)),aD! (nmR r++" "),aD! (ry! (nmR r) (b! 1)),aD! (nmR r++"s"),aD! "",aA!,c! 3,n! [by!],X! [by!],eQ!,.dct]
theorem zqg(h:d∈noR r)(s:Sto):vQ [d] s=c6!:=by
 simp only[noR,_C,_ck,or_false]at h;cases r<;>rcases h with rfl | rfl | rfl | rfl | rfl | rfl | rfl | rfl | rfl | rfl | rfl<;>kernel_rfl
theorem zhn(r:Rl) (h:Pot s l):∃d s',xq [db!,by!] s=bz! d/\d∈noR r/\vK s s' l:=by
 have st:zv [dy!,f1!,hp!] [db!,by!]=[J!,d7!,a!]:=rfl;have q1:z0z [J!,d7!,a!] s=aN! [J!,d7!,aL! (noR r)]:=by cases r<;>kernel_rfl
 obtain⟨x,s',e,a,b,dr⟩:=vC (f:=u!) (g:=E! 11) (far:=11) (ρ:=[J!,d7!,aL! (noR r)]) h (by decide) (kL (by decide)) (by rfl) (by rfl);have hr:ou!<t! (noR r):=by simp[noR];omega
 have ix:=wO (xs:=noR r) (d:=(noR r)[x.toNat]) (s:=s') a (by simp[hr]);refine⟨(noR r)[x.toNat],s',?_,_J hr,dr⟩;simp only[xq,Mof,z0W,st,_d,_k,_v];rw[zm q1,z0F,yf,yO];simp only[ym,_e,_c,Rb];rw[e,Rb,ix,Rb]
theorem zqk(h:Pot s l) (hf:ay!=k! db!):∃r s',hF! (ze jF zi) (es! zB f (E! 4)) ρ s=bz! by!/\vK s s' l:=by
 obtain⟨x,s',e,a,b,dr⟩:=vC (f:=f) (g:=E! 4) (far:=4) (ρ:=ρ) h (by decide) (kL (by decide)) hf (by rfl);have hr:ou!<rls.length:=by simp[rls];omega
 refine⟨rls[x.toNat],s',?_,dr⟩;have ix:=wO (xs:=rls.map λr=>D.str (nmR r)) (d:=aD! (nmR rls[x.toNat])) (s:=s') a (by simp[hr]);rw[yO,yj,zL,Rb,zjQ,Rb,e,Rb,ix]
end Po
namespace Po
open L2 Dd Pm Pg Pn
theorem zje{α:bD!} (og:okG G all s)(g f:α->D):∀(l:List α)(acc:List D),(∀x∈l,body (g x) s=k! (b! (f x)))->im!+hT!<=cap->qp G all dM! kA! acc s=k! (acc++m4!)
 | [],acc,_,_=>by simp[qp,og] | x::xs,acc,hb,hl=>by
  rw[_u,qp,_g og,hb x (by simp),Rb];simp only[_g (show im!<cap from by simp at hl;lia),(zje (all:=all) og g f xs (acc++[f x]) (cN! (hb y (by simp[hy]))) (by simp at hl ⊢;lia))];simp
theorem zhh{α:bD!} (g f:α->D)(ev:α->Ev)(l:et!) (hi:fi ρ s=k! (kA!,G))(og:okG G kA! s)(hg:∀a∈l,fg (g a) jw! s=k! (ev a))(he:∀a∈l,fe (ev a) s=k! (f a))(hl:hT!<=cap): zt fi mp fg zU fe ρ s=bw! m4!:=by
 rw[ue,uH,hi,Rb,zje og g f l [] (by
  intro a ha;simp only[hg a ha,Rb];simp[he a ha]) (by simpa using hl)];rfl
section
variable {n m:Nat}{r:Rl}{v:h!}{ls:fr!}
noncomputable abbrev RV(d e:D)(L:Nat)(a4 a5:fN!):Ev:=[i!,l!,bG! L,bG! (L+1),a4,a5]
theorem ziY{s:Sto} : (s++[x,y]).set aW! z=s++[z,y]/\(s++[x,y]).set (aW!+1) z=s++[x,z]:=by
 constructor;·simp
 ·simp
theorem zaa{s:Sto} : G! (s++[x,y]) aW! x/\G! (s++[x,y]) (aW!+1) y:=by
 constructor;·simp
 ·simp
theorem zib(hd:d=by!) (hm:m<=hV!) (s:Sto) (Rn:gk! c):∀(pre:List (List Int)) (pt:List Tb) (a4 a5:Option D),oL! m c->pre.length+pI!<=50000->pt.length+pI!<=50000-> ∃b4 b5,vk (eR! (aM! xE (di! 2 ea!))) (a6! jN ju jM) (pI!+1) (la! d e a4 a5) (s++[el! [c],iv!])=H! (la! d e b4 b5) (s++[el! ls,f6! (pt++jT!)]):=by
 have cX:∀(pre:List (List Int)) (pt:List Tb) (c:List Int) (a4 a5:Option D),oL! m c->hF! P! ea! (la! d e a4 a5) (s++[el! [c],iv!])=.ok (rD c) (s++[el! [c],iv!])/\qT (tOf (aM! xE (di! 2 ea!))) (la! d e a4 a5) (s++[el! [c],iv!])=.ok (! ended c) (s++[el! [c],iv!]):=λpre pt c a4 a5 h=>by
  have ix:=z7N (x:=l1!) (d:=rD c) (xs:=pre.map rD) (s:=s++[el! [c],iv!]) (by rw[zY];simp);have hE:=zkF er! (s++[el! [c],iv!]);generalize (s++[el! [c],iv!])=S at *;have e1:hF! P! ea! (la! d e a4 a5) S=.ok (rD c) S:=by rw[op2 (x:=l1!) (y:=c! (-1)) p! (by rfl),ix]
  refine as! e1 ?_;rw[vG,vo (b:=ended c) (by rw[yF e1,hE]),Rb]
 induction Rn with
 | @done v hend=>
  intro pre pt a4 a5 h hl gc;refine a3! a4 a5 ?_;rw[vk,(cX pre pt v a4 a5 h).2,hend];simp[zO] | @step v ls hend Rn ih=>
  intro pre pt a4 a5 h hl gc;obtain⟨b4,b5,ih⟩:=ih (pre++[v]) (pt++[fX!]) (bv! dI!) kL! (pe! hend) (by simp at hl ⊢;lia) (by simp at gc ⊢;lia);rw[_d,vk,(cX pre pt v a4 a5 h).2,hend,Rb];have lR:=zn2 r h hend hm (s++[el! [v],iv!]);rw[<- hd]at lR;have f4:jN (la! d e a4 a5) (s++[el! [v],iv!])=H! (la! d e (bv! dI!) kL!) (s++[el! [v],iv!]):=by
   rw[jN,zcq,call2 (x:=d) (y:=O!) p! ((cX pre pt v a4 a5 h).1),lR,Rb];rfl
  have f5:ju (la! d e (bv! dI!) kL!) (s++[el! [v],iv!])=H! (la! d e (bv! dI!) kL!) (s++[eP! (pre++[v]++[dI!]),iv!]):=by
   have fl:(rD dI!).flat=d!:=yQ _;rw[ju,z1s,z9y];simp only[ym,_c,_e,Rb,zaa.1,_g (show (rD dI!).flat=d!/\t! (el! [v])<cap from as! fl (by simp[cap]at hl ⊢;lia)),ziY.1];simp
  have f6:jM (la! d e (bv! dI!) kL!) (s++[eP! (pre++[v]++[dI!]),iv!])=H! (la! d e (bv! dI!) kL!) (s++[eP! (pre++[v]++[dI!]),f6! (pt++[fX!])]):=by
   have ln:t! iv!<cap:=by simp[cap]at gc ⊢;lia
   rw[jM,z1s,z9y];simp only[ym,_c,_e,Rb,zaa.2,_g (show (tD fX!).flat=d!/\t! iv!<cap from as! (z9m _) ln),ziY.2];simp
  rw[zm f4,zm f5,f6,Rb];simp only;rw[ih,Rn.tabs_cons];simp
theorem zrX(r:Rl)(h:fy!)(Rn:gk! v)(hm:m<=hV!)(hl:pc!)(s:Sto):z1A [by!,O!] s=.ok (n! [l1!,.loc (aW!+1)]) (s++[cS!,fu!]):=by
 have key:hU! (d=by!->e=O!->z1A [d,e] s=.ok (n! [l1!,.loc (aW!+1)]) (s++[cS!,fu!])):=rh! (by
  have st:zv [f1!,bP!,pE!,pF!,oB!,jL!] [d,e]=[i!,l!,a!,a!,a!,a!]:=rfl;have f1:z0S [i!,l!,a!,a!,a!,a!] s=H! [i!,l!,ad!,a!,a!,a!] (s++[[e]]):=by
   simp only[z0S,zR,z7S,zq,zL,ym,_e,_c,Rb];rw[bS! (by simp[cap]) (by simp[flC,flN,(show e.flat=d! from by rw[he];exact (yQ _))])];rfl
  have f2:z16 [i!,l!,ad!,a!,a!,a!] (s++[[e]])=H! (la! d e a! a!) (s++[[e],[]]):=by
   simp only[z16,zR,z7S,zL,Rb];rw[bS! (by decide) (by rfl)];simp[RV]
  obtain⟨b4,b5,lp⟩:=zib (e:=e) hd hm s Rn [] [] none none h (by simpa using hl) (by simpa using hl);rw[_aw,show eP! [v]=[e] from by rw[he];rfl]at lp;simp only[z1A,Mof,z7H,st,_d,_k,_v];rw[zm f1,zm f2,zm (by rw[z5f];exact z3s lp (by simp)),z5g,yf,z1Q];rfl)
 exact key _ _ rfl rfl
end
end Po
namespace Pr
open L2 Dd Pm Pg Pn Po
open PySem.W
theorem zqU(aD:∀i j,i<N->j<N->i≠j->lt j i=! lt i j)(tr:∀i j k,ds! i j->ds! j k->ds! i k)(hN:1<=N)(h:∀i j,i<j->j<N->ds! i j): ed! N (qX! N (gv! N))=b! (N,gv! N):=by
 have P:PmN N (gv! N):=⟨by simp⟩;have at_:∀i,i<N->at0 (gv! N) i=i:=eH! (by simp[hi])
 obtain⟨m,e1,e2,e3,e4,e5⟩:=zay aD tr P (N-1) 1 am! (by lia) (λi j h1 h2=>by lia);have em:m=N:=by
  by_cases q:m<N
  ·exfalso;have z:=e5 (by lia);rw[at_ m q,at_ (m-1) (by lia),aD (m-1) m (by lia) q (by lia),h (m-1) m (by lia) q]at z;cases z
  ·lia
 unfold kas_count;rw[z0i,e1];simp only[_O];rw[_g (by simpa using em),em];rfl
theorem range_getD{L:fr!}:aT! aE! (λi=>cE! i)=L:=by
 apply _aM;·simp
 ·intro i h1 h2;simp[h2]
theorem znx(nd:L.Nodup)(h:aE!<64\/Up L):∃p,zrq L=b! p/\qW! (iM! aE!)/\Up (ko! (cE! i)):=by
 have aD:∀i j,i<aE!->j<aE!->i≠j->gU! (cE! j) (cE! i)=! gU! (cE! i) (cE! j):=λi j hi hj aJ=>by
  refine zfm λz=>aJ ?_;simp only[_n,_b hi,_b hj,_aG]at z;exact (_a2 nd).mp z
 have tr:∀i j k,gU! (cE! i) (cE! j)=d!->gU! (cE! j) dX!=d!->gU! (cE! i) dX!=d!:=λi j k=>zht;unfold zrq;by_cases q:aE!<2
 ·rw[_g q];refine mS! _ (by simp) ?_;rw[show (gv! aE!).toList=iM! aE! by simp,range_getD];match L,q with
  | [],_=>exact List.Pairwise.nil | [a],_=>exact List.pairwise_singleton _ _
 ·rw[_o q];by_cases q2:aE!<64
  ·rw[_g q2];obtain⟨p,e,h1,h2⟩:=zjP aD tr (by lia);exact⟨p,e,h1,by rw[Up,List.pairwise_map];exact h2⟩
  ·rw[_o q2];have hu:=h.resolve_left q2;rw[zqU aD tr (by lia) (λi j aJ hj=>by
    have:=List.pairwise_iff_getElem.mp hu i j (by lia) hj aJ;simpa[show i<aE! by lia,hj] using this)];simp only;rw[_g trivial];refine mS! _ (by simp) ?_;rw[show (gv! aE!).toList=iM! aE! by simp,range_getD];exact hu
theorem zkr{d:D}(hd:mm! d=b! (F.map rD))(nd:F.Nodup)(h:F.length<64\/Up F)(ne:∀v∈F,a4! v):∃G:List (List Int),z8I s d=b! (G.map rD)/\Up G/\(∀x,x∈G ↔ x∈F)/\G.length=F.length:=by
 obtain⟨p,e,pm,up⟩:=znx nd h;have mem:∀i,i∈p.toList ↔ i<F.length:=λi=>by rw[pm.mem_iff,_aO]
 have ln:sc! F.length:=by have:=pm.length_eq;simpa using this
 refine⟨ko! (F.getD i []),?_,up,λx=>?_,by simpa using ln⟩
 ·have t := zcs F;unfold z8I;rw[hd];simp only[t,e];rw[_g]
  ·congr 1;rw[_ag];refine _aq (eH! ?_);have:=(mem i).mp hi;simp[this]
  ·refine⟨?_,?_,by simpa using ln⟩
   ·rw[_Q];intro v hv;have:=ne v hv;cases v with
    | nil=>exact fn! iV! | cons a b=>rfl
   ·rw[_Q];intro i hi;simpa using (mem i).mp hi
 ·have:(ko! (F.getD i [])).Perm F:=by
   have:=pm.map (λi=>F.getD i []);rwa [range_getD]at this
  exact this.mem_iff
end Pr
namespace Dt
noncomputable def at_(pB:rC!)(i:Nat):Keyed:=pB.getD i (Value.none,Value.none)
structure Env(prog:Program)(w:World)(A:Around)(s:Shared)(κ:SortKind)(P:Keyed->g!)(rk:Keyed->Nat):g! where d9:∀x y,P x->P y->∀(C:Bool->Shared->Prop)(E:Value->Shared->Prop),C (bl! (rk x<rk y)) s->cG! w A (keyLt' κ x.1 y.1) C E s
section
variable {rk:Keyed->Nat}{a b x y r:rC!}
noncomputable def write(a r:rC!)(sa:Nat):rC!:=r.toList.zipIdx.foldl (λa p=>a.setIfInBounds (sa+p.2) p.1) a
end
section
variable {prog:Program}{w:World}{A:Around}{E:b1!}{s:Shared}{κ:SortKind}{a₀:rC!}{rk:Keyed->Nat}(V:Env ni! w A s κ (· ∈ a₀.toList) rk) {st:SortSt}
structure SB(κ:SortKind)(a₀:rC!)(st:SortSt):g! where
 perm:(px! st).Perm a₀
 kind:kindOf st=κ
 failed:failedOf st=a!
end
end Dt
namespace L2
noncomputable def zvr(lo:Int)(n:Nat):It:=⟨λi _=>i<n,λi H x H'=>H'=H/\x=c! (lo-i),λi _=>n<=i⟩
theorem zhE{P:Program} {w:World} {K:W.Frag} {tg:Expr} (it:Addr) (lo:Int) (n:Nat):zkj P w K tg (zvr lo n) [it] it (λi h=>IsRangeIter h it (lo+eM! i*(-1)) (j! n-eM! i) (-1)) where
 mem:=by simp
 obj:=λi h st b hb=>by
  have e:b=it:=by simpa using hb
  subst e;exact bQ! st (λv z=>by
   have z' := z;cases z')
 keep:=λi h h' st k=>k it (by simp) _ st;item:=by
  intro X hP hw hK hc i ae s O H E I hf st hg;subst hP hw hK;obtain⟨f0,f1,f2,f3,f4,f5⟩:=hf it (by simp);have W:=Walks.range (prog:=X.prog) (w:=X.w) ht! it lo (-1) n;refine W.item i s _ _ hg st λv h' tk hv ay kk=>?_;obtain⟨t,rfl⟩:=hv;have I1:l4! ({s with heap:=h',toks:=tk}):=I.turned (kR! (kk b o (by simpa using hb) e)) f0 f1 f3 f4 f5;refine aH! _ (zjL ay rfl rfl (by decide) ⟨c! (lo-i),H,I1,as! t ?_,cl! rfl,ay,cv! (hf b hb).1⟩);rw[show lo+j! i*-1=lo-i by lia]
 done:=by
  intro X hP hw hK hc i ae s O H E I hf st hg;subst hP hw hK;obtain⟨f0,f1,f2,f3,f4,f5⟩:=hf it (by simp);exact wpAny_pyNext_range_end ht! st (by have:n<=i:=hg;lia) λh' eb=>g4! (I.turned (t':=s.toks) (kR! (eb b o hb e)) f0 f1 f3 f4 f5)
 self:=λ_ _ _ _ _ st h=>wpAny_pyIter_rangeiter st h
section
variable {X:Cx}{tg:Expr}
theorem zcR{a b:Int}:Builtin.Range.rangeSize a b (-1)=aa! (fI! (a-b)):=by
 unfold Builtin.Range.rangeSize;rw[_o (by lia)];by_cases h:b<a;·first
   | (rw[_g (by lia)];simp;lia) | (simp[h];lia)
 ·first
   | (rw[_o (by lia)];lia) | (simp[h];lia)
theorem small_down{a b:Int}(h1:-fF!<=a)(h2:dv! a)(h3:-fF!<=b)(h4:dv! b):Builtin.Range.small a b (-1)=d!:=by
 unfold Builtin.Range.small;rw[zcR];simp only[Builtin.Range.rangeFitsLong,_S,Bool.or_eq_true,_aA,_aC];refine⟨by lia,T! ?_⟩;rw[_o (by lia)];simp only[_S,_aA];lia
theorem znf{a b c:Expr} {ta:TA} {p pos:Pos} (hg:o8!) (hm:dS! fD!) (ha:PA X [a,b,c] ta) (bR:B! (aw! [a,b,c]=[d6! a,d6! b,d6! c])) (de:B! (aw! [b,c]=[d6! b,d6! c])): PI X tg (dw! fD! p [a,b,c]) (λO H R=>ta O H λvs H1=>∃i j:Int,vs=[U!,c! j,c! (-1)]/\(-fF!<=i/\dv! i/\-fF!<=j/\dv! j)/\R (zvr i (i-j).toNat) H1):=by
 intro ae s O H R I h;refine Call_ (z2g I hg hm boot_range (_ab (thn (ha pos ae s O H _ I h) λus s1 ⟨vs,H1,I1,r1,q1⟩=>?_) (by rw[bR,de]) (by rw[de];rfl)));obtain⟨i,j,e,⟨b1,b2,b3,b4⟩,q⟩:=q1;subst e;cases r1 with | cons r r1=>cases r1 with | cons r' r1=>cases r1 with | cons pC r1=>
    cases r1;obtain⟨t,rfl⟩:=r;obtain⟨t',rfl⟩:=r';obtain⟨gA,rfl⟩:=pC;refine call_range_3 (by lia) ?_ (C! (_bR (by decide +kernel)));refine wpAny_pyIter_range (IsRange.new ..) (small_down b1 b2 b3 b4) ?_;have I2:cQ! H1 ({s1 with heap:=qs! ({cls:=mb!,data:=eY! #[ci! i,bE! j t',bE! (-1) gA]}),toks:=s1.toks}):=of! (mj! _ e);refine⟨eo! (qs! ({cls:=mb!,data:=eY! #[ci! i,bE! j t',bE! (-1) gA]})),[eo! (qs! ({cls:=mb!,data:=eY! #[ci! i,bE! j t',bE! (-1) gA]}))],_,_,H1,rfl, I2.kept (mj! _ e),zhE _ i (i-j).toNat,?_,cv! ?_,q⟩
    ·have e1:i+aa! 0*(-1)=i:=by simp
     have e2:aa! (fI! (i-j))-aa! 0=Builtin.Range.rangeSize i j (-1):=by rw[zcR];lia
     show IsRangeIter _ _ (i+aa! 0*(-1)) (aa! (fI! (i-j))-aa! 0) (-1);rw[e1,e2];exact hh!
    ·have e:b=eo! (qs! ({cls:=mb!,data:=eY! #[ci! i,bE! j t',bE! (-1) gA]})):=by simpa using hb
     subst e;exact I2.fpOk am! (I2.hok.fresh am!)
end
end L2
namespace Dd
open L2
section
variable {X:Cx}{E:XK}{a b c tg:Expr}{pos:Pos}
noncomputable def uf(i:Int)(n:Nat):x!:=aT! n (λ(k:Nat)=>aP! (i-aa! k))
noncomputable def zgB(f:FA):FI:=ca! ay! (iT! (match ds with
 | [.int i,.int j,.int (-1)]=>ae! (-fF!<=i/\dv! i/\-fF!<=j/\dv! j) (I! (uf i (i-j).toNat,[])) | _=>.no))
theorem zqC{p:Pos}{f:FA}(hg:o8!)(hm:dS! fD!)(ha:RA X E [a,b,c] f)(bR:B! (aw! [a,b,c]=[d6! a,d6! b,d6! c]))(de:B! (aw! [b,c]=[d6! b,d6! c])):RI X E tg (dw! fD! p [a,b,c]) (zgB f):= z8N (znf hg hm ha bR de) λO H Q ⟨Y,ρ,s,r,en,h⟩=>by
  unfold zgB at h;refine⟨Y,ρ,s,r,en,dl! h (λvs H1 ⟨Y1,s1,ds,stp,dn,h1⟩=>?_)⟩;split at h1
  ·rename_i i j;split at h1
   ·rename_i hj;simp only[yo]at dn;obtain⟨v1,r1,rfl,d1,v2,r2,rfl,d2,v3,r3,rfl,d3,rfl⟩:=dn;cases yy d1;cases yy d2;cases yy d3;refine g6! i j hj (oQ! (λH2 Y2 s2 ag _ k=>⟨il! ?_,λhl=>?_⟩))
    ·have hi:k<fI! (i-j):=by
      have:=cV! hd;simpa[uf] using this
     refine⟨hi,λx H' ⟨e1,e2⟩=>?_⟩;subst e1 e2;refine⟨Y2,.refl jJ!,?_⟩;have e3:d=aP! (i-k):=by
      simp only[uf,_D,_aH hi,_ai,_y]at hd;exact hd.symm
     rw[e3];exact yH
    ·have:t! (uf i (i-j).toNat)=fI! (i-j):=by simp[uf]
     show fI! (i-j)<=k;rw[<- this];exact hl
   ·exact h1.elim
  ·exact h1.elim
@[simp] theorem zof(f:FA)(ρ:Ev)(s:Sto):zgB f ρ s=ks! (iT! (match ds with
 | [.int i,.int j,.int (-1)]=>ae! (-fF!<=i/\dv! i/\-fF!<=j/\dv! j) (I! (uf i (i-j).toNat,[])) | _=>.no)):=V!
noncomputable def zes:D->D->bi!:=ml! (ae! (j≠0/\ke!<BIG) (iOk (c! (i.fdiv j))))
theorem zki:gG! .FloorDiv (rI (λ_ j=>j≠0/\ke!<BIG) (mT! (i.fdiv j))):=opI λi j _ _ _ _ _ hc q=> floordiv_int hc.1 q (C! (_bR (zhi hc.2)))
theorem zoW:∃r,gG! .FloorDiv r/\cZ! zes:=bQ! zki (l5! (by
 split at e
 ·rename_i hc;simp only[iOk,R.ok.injEq]at e;exact⟨i,j,rfl,rfl,hc,q _ (by intro H Y;rw[<- e.1];exact yH)⟩
 ·cases e))
noncomputable def z8G:D->D->bi!:=ml! (ae! (eF!<2 ^ (2 ^ 16)/\ke!<2 ^ (2 ^ 16)) (iOk (c! (i*j))))
theorem zbU{i:Int}(h:eF!<2 ^ (2 ^ 16)):Builtin.Int.intBits i<=2 ^ 20:=by
 have q:=(PySem.intBits_le_iff).mpr h;exact _G q (by decide)
theorem zou:nO! (rI (λi j=>eF!<2 ^ (2 ^ 16)/\ke!<2 ^ (2 ^ 16)) (mT! (i*j))):=opI λ_ _ _ _ _ _ _ hc q=>mul_int q (IntMulOk.of_bits (zbU hc.1) (zbU hc.2))
theorem ziI:∃r,nO! r/\cZ! z8G:=bQ! zou (l5! (by
 split at e
 ·rename_i hc;simp only[iOk,R.ok.injEq]at e;exact⟨i,j,rfl,rfl,hc,q _ (by intro H Y;rw[<- e.1];exact yH)⟩
 ·cases e))
theorem zkv{i j:Int}(h:j≠0)(hb:ke!<BIG)(s:Sto):zes U! (c! j) s=v! (i.fdiv j):=by
 simp only[zes,dII,iOk];rw[bS! h hb]
theorem zhB{i j:Int}(h:eF!<2 ^ (2 ^ 16))(hb:ke!<2 ^ (2 ^ 16))(s:Sto):z8G U! (c! j) s=v! (i*j):=by
 simp only[z8G,dII,iOk];rw[bS! h hb]
end
end Dd
namespace aW
open L2 Dd Pg
noncomputable def rsX:aq!:=[hj!,hk!,jy!,jz!]
noncomputable def csX:aq!:=[hj!,jy!,n2!,n3!,jz!,n1!,hk!,nS!,nT!,nX!,nU!,nZ!,nW!,n4!,n0!,nV!,nY!]
@[simp] noncomputable def z5M:FS:=(yw 1 (qg (dY! (h6! hj!) (h6! jy!) (h6! n2!) (h6! n3!) zi)))
@[simp] noncomputable def z5o:FS:=(yw 1 (i5! 1 (qg (dY! (h6! jz!) (h6! n1!) (h6! hk!) (h6! nS!) zi))))
@[simp] noncomputable def z5I:FS:=(yw 1 (i5! 1 (qg (dY! (h6! nT!) (h6! nX!) (h6! nU!) (h6! nZ!) zi))))
@[simp] noncomputable def z5H:FS:=(yw 1 (i5! 1 (qg (dY! (h6! nW!) (h6! n4!) (h6! n0!) (h6! nV!) zi))))
@[simp] noncomputable def z5v:FS:=(yw 1 (i5! 1 (qg (a0! (h6! nY!)))))
@[simp] noncomputable def z5D:FS:=(xb (bL! "other"))
@[simp] noncomputable def z5O:FS:=(a2! (fOr (eS! (zqZ r! (eC eQ!)) ah!) (eR! (zvy rsX u!))) z5D)
@[simp] noncomputable def z5y:FS:=(yw 2 (qg (dY! (bL! aj!) (bL! eI!) (bL! c2!) (bL! "alike") (dY! (bL! "fair") (bL! "text") (bL! cx!) (bL! "ended") (a0! (bL! "bottom"))))))
@[simp] noncomputable def z5F:FS:=(yw 2 (i5! 2 (qg (dY! (bL! "root") (bL! "cube") (bL! mw!) (bL! hS!) (dY! (bL! "many") (bL! "step") (bL! "deed") (bL! "row") zi)))))
@[simp] noncomputable def z4d:FS:=(xb (di! 2 (zqP r! (eC eQ!))))
noncomputable def z7L:FS:=(dB! z5M z5o z5I z5H (dB! z5v z5O z5y z5F z4d))
noncomputable def vc:Mir:=c0! [pQ!,hp!,"_law_words"] z7L
@[simp] noncomputable def z09:FS:=(yw 1 ch!)
@[simp] noncomputable def z0v:FS:=(yw 2 (z1U (z5b (cc! u! (jj! Pg.xC))) jp! (yS 0 1) zU (bf! (a8! z2y) (jj! z2y))))
@[simp] noncomputable def vI:FS:=(yw 4 (i6! (zdc (hY! 3 1)) (fw! 3 2) 2 (eS! (co! (ax! 1 2) u!) A!) P!))
@[simp] noncomputable def vL:FS:=(yw 5 (co! (co! (aM! zbj (i7! (zQ (zd 4)) (fw! 3 2) 2 (dL! (aM! zlC (co! (ax! 1 2) u!)) P!))) A!) ah!))
@[simp] noncomputable def vW:FS:=(yw 6 (ax! 2 5))
@[simp] noncomputable def vP:FS:=(z1k P! (zd 5) (ax! 2 3))
@[simp] noncomputable def uc:FS:=(z1k P! bp! (zd 6))
@[simp] noncomputable def uQ:FS:=(yw 8 (eOp zes (co! (ax! 2 7) bp!) (ax! 6 3)))
@[simp] noncomputable def uU:FS:=(z1k P! (zd 7) (zt (z5b (cc! (zd 6) (ax! 2 7))) (dE! 8) (yS 1 2) zU (kK! 2 (dz! z8G 0 r!))))
@[simp] noncomputable def vb:FS:=(hg! (zdc (ip! (fQ! 3) 1)) 7 (zy uQ uU))
@[simp] noncomputable def qP:FS:=(z2e (eS! (i6! (zQ (fg! P! (fQ! 3))) (F! 3) 1 (eS! (gC! 1) A!) r!) (qg zi)) (zy vI (dB! vL vW vP uc vb)))
@[simp] noncomputable def z06:FS:=(hg! (eA! 1) 3 qP)
@[simp] noncomputable def qa:FS:=(z1k P! bp! (i7! (zQ (ax! 2 3)) (fw! 3 2) 2 (dz! z8G 2 (co! (gC! 1) u!))))
@[simp] noncomputable def uZ:FS:=(yw 6 (ax! 2 3))
@[simp] noncomputable def qe:FS:=(yw 8 (co! (ax! 2 7) bp!))
@[simp] noncomputable def uM:FS:=(z1k P! (zd 7) (zt (z5b (cc! (zd 6) (ax! 2 7))) (dE! 8) (yS 1 2) zU (kK! 2 (dz! z8G 0 r!))))
@[simp] noncomputable def uO:FS:=(hg! (eA! 3) 7 (a6! uZ qe uM))
@[simp] noncomputable def jW:FS:=(hg! (zgB (zb (kK! 1 ah!) (cc! ea! ea!))) 3 (zy qa uO))
@[simp] noncomputable def jY:FS:=(xb (dr! (zQ P!) (F! 1) 1 (aM! zV (fg! r! u!))))
noncomputable def z4I:FS:=(dB! z09 z0v z06 jW jY)
noncomputable def jn:Mir:=z5K (c0! [jL!,f0!,nz!,e3!,"_law_good","_law_first","_law_head",b8!,lX!] z4I)
@[simp] noncomputable def jT:FS:=(zgj (cM! Pg.z0j) (yS 2 3))
@[simp] noncomputable def kj:FS:=(yw 4 (aM! Pg.xC h9!))
@[simp] noncomputable def uN:FS:=(yw 4 (gz! Pg.jX 4 5))
@[simp] noncomputable def ke:FS:=(hg! kO! 5 uN)
@[simp] noncomputable def jS:FS:=(yw 6 (e5! jn 4))
@[simp] noncomputable def kr:FS:=(yw 7 (co! (zt (z2M (a0! (di! 2 ea!))) jp! (yS 0 1) (dn! dGt 1 A!) u!) A!))
@[simp] noncomputable def kq:FS:=(xb (bf! (qg (a0! (ax! 6 7))) (zt (z2M (b9! 6)) (dE! 7) (yS 1 2) (ev! 1 u!) P!)))
noncomputable def z3u:FS:=(zy jT (dB! kj ke jS kr kq))
noncomputable def qm:Mir:=z5K (cL! [f1!,bP!,pE!,pF!,"_law_whole_here",jL!,gs!,e3!] z3u)
@[simp] noncomputable def z2t:FS:=(xb iG!)
@[simp] noncomputable def xL:FS:=(a2! (js! (k6! r!) (fOr (eS! h9! (E! 3)) (js! (aM! Pg.yY (hG! 1)) (hs! dLt (hG! 1) ah!)))) z2t)
@[simp] noncomputable def z2z:FS:=(xb iG!)
@[simp] noncomputable def xc:FS:=(a2! (js! (es! pR! (di! 1 ah!) ch!) (eR! (es! pR! (di! 1 (E! 2)) ch!))) z2z)
@[simp] noncomputable def z2r:FS:=(xb iG!)
@[simp] noncomputable def xJ:FS:=(a2! (eS! (zt (z5b (ip! (di! 1 ah!) 0)) (dE! 1) (yS 1 2) (eS! (fS! 1 (hG! 0)) P!) ah!) (qg zi)) z2r)
@[simp] noncomputable def vn:FS:=(xb (eOp dEq (es! Pg.kH (di! 1 (E! 2)) u!) (hG! 1)))
noncomputable def wk:FS:=(zy xL (a6! xc xJ vn))
noncomputable def ye:Mir:=cL! [bP!,dP!] wk
@[simp] noncomputable def wy:FS:=(zgj P! (zpb 3 4 5))
@[simp] noncomputable def wG:FS:=(yw 6 (co! (qg (dY! ah! (gF! (E! 2) bp!) (eOp z8T A! bp!) A! (dY! (eC eQ!) (eC aA!) (bL! "1") (vj (b9! 3)) (a0! (fQ! 3))))) (da! pS! (E! 9))))
@[simp] noncomputable def wx:FS:=(yw 7 (dr! (zQ (zd 5)) [a!] 0 (gF! (E! 2) u!)))
@[simp] noncomputable def wu:FS:=(yw 8 (qg (zb (vj (fB! (zd 6) 4 5)) (cc! (vj (zb bp! (ip! (gz! Pg.uu 0 4) 5))) (vj (zb bp! (cc! (zd 4) (gz! Pg.uu 0 5))))))))
@[simp] noncomputable def wC:FS:=(yw 8 (i5! 8 (qg (dY! (vj (fB! bp! 5 4)) (vj (fB! ah! 1 5)) (vj (fB! bp! 1 5)) (vj (fB! (gF! (E! 2) bp!) 4 7)) zi))))
@[simp] noncomputable def wz:FS:=(yw 8 (i5! 8 (qg (dY! (e5! z2y 2) (vj (zb bp! (ip! (e5! z2y 4) 5))) (gh! P! (E! 2)) (i5! 2 (vj (a0! A!))) (a0! (a8! Pg.kB))))))
@[simp] noncomputable def wA:FS:=(xb (di! 8 (da! pS! (E! 12))))
noncomputable def qI:FS:=(a6! wy wG (dB! wx wu wC wz wA))
noncomputable def yq:Mir:=Mof [dy!,bP!,dP!,oG!,ny!,lV!,q6!,"_law_wide",hp!] 3 qI
@[simp] noncomputable def xR:FS:=(xb (ziL (co! (qg (cc! (eC (.fn ng!)) (eC (.fn nf!)))) u!) [(ng!,Pg.ug),(nf!,Pg.wD)] (hY! 1 2)))
@[simp] noncomputable def kZ:FS:=(xb (e5! vc 3))
@[simp] noncomputable def z00:FS:=(zqN rsX xR 3 kZ)
noncomputable def z1c:FS:=z00
noncomputable def zT:Mir:=Mof ["_law_way",eq!,d5!,pQ!] 3 z1c
@[simp] noncomputable def z6k:FS:=(yw 2 (aM! Pg.z1C (cM! Pg.uR)))
@[simp] noncomputable def z80:FS:=(yw 3 (e5! Pg.z1H 2))
@[simp] noncomputable def z7q:FS:=(yw 4 (co! (ze Pg.jF zi) (es! pS! P! (E! 4))))
@[simp] noncomputable def z6F:FS:=(yw 5 (e5! Pg.z1G 3))
@[simp] noncomputable def z6Z:FS:=(yw 6 (vj (zb (zd 5) (cc! (dr! kO! (F! 5) 1 (dz! z45 1 u!)) (co! (gz! qm 4 3) A!)))))
@[simp] noncomputable def znT:FS:=(xb iG!)
@[simp] noncomputable def z7e:FS:=(a2! (js! (ze Pg.uz (ip! (ze zT (fB! A! 4 3)) 6)) (eR! (ze Pg.uz (ip! (ze zT (fB! A! 4 3)) 6)))) znT)
@[simp] noncomputable def zkt:FS:=(xb iG!)
@[simp] noncomputable def z36:FS:=(a2! (eR! (es! Pg.uz (ze zT (fB! ah! 3 7)) (gz! ye 3 7))) zkt)
@[simp] noncomputable def z73:FS:=(hg! (zQ (bf! (qg (b9! 6)) (i7! (jV (a0! (E! 4))) (fv! 2 3 6) 3 (ze yq (fB! u! 1 2))))) 7 z36)
@[simp] noncomputable def z3l:FS:=(yw 8 (gz! Pg.uu 2 3))
@[simp] noncomputable def zkZ:FS:=(xb iG!)
@[simp] noncomputable def z3J:FS:=(a2! (zlT (eR! (e5! Pg.yG 8)) (eS! (qg (cc! (ze zT (fB! A! 4 8)) (ze zT (fB! ah! 8 6)))) (eOp zs7 (qg (a0! (bL! aj!))) (E! 2)))) zkZ)
@[simp] noncomputable def zlj:FS:=(xb iG!)
@[simp] noncomputable def z3v:FS:=(a2! (eS! (ze zT (zb A! (cc! (gz! Pg.xq 2 4) (co! (qg (hY! 3 8)) (es! pS! P! (E! 2)))))) (bL! cx!)) zlj)
@[simp] noncomputable def zdk:FS:=(hg! (jV (a0! (es! zkX ah! (es! zlh ch! (E! 12))))) 1 (zy z6k (dB! z80 z7q z6F z6Z (dB! z7e z73 z3l z3J z3v))))
@[simp] noncomputable def zkB:FS:=(xb (eC eQ!))
noncomputable def zlA:FS:=(zy zdk zkB)
noncomputable def zor:Mir:=c0! [lU!,pA!,dy!,bP!,f1!,oG!,kZ!,dP!,"_law_bad"] zlA
end aW
set_option maxHeartbeats 6000000
namespace aW
open L2 Dd Pg
class Txt (P:Program)(w:World)(K:W.Frag)(mg:Str->aU!):g! where
 f0:∃t,fx! "LEAST_SIZE" (ci! 2)
 f1:∃t,fx! "MOST_SIZE" (ci! 4)
 f2:hI! iH!
 f3:hI! "abs"
 f4:hI! jx!
 f5:hI! ig!
 f6:hI! gO!
 f7:hI! eE!
 f8:hI! gP!
 f9:hI! "len"
 f10:hI! en!
 f11:hI! nQ!
 f12:hI! nR!
 f13:hI! fD!
 f14:hI! ly!
 f15:hI! go!
 f16:hI! "sum"
 f17:hI! c2!
 f18:hI! iJ!
 q:∀(i:Nat){x:Str}{st:Stmt},al! askQ.fs (x,st)->Fq K mg x st
 T_RULES:zqp P w K mg "RULES" z3o
 E_NoRule:zpa K mg hk!
 E_NoLot:zpa K mg hj!
 E_NoTable:zpa K mg jy!
 E_NotFair:zpa K mg jz!
 FM:zeo ⟨mg,K⟩ rsX csX
 KS:∀c∈rsX,zth K mg c lz!
theorem zpH:lC! "abs"=h4! "abs":=by decide +kernel
theorem zeb:lC! jx!=h4! jx!:=by decide +kernel
theorem z7s:k4! ig! (ar! ig!):=by decide +kernel
theorem zc5:k4! eE! (ar! eE!):=by decide +kernel
theorem yV:lC! "len"=h4! "len":=by decide +kernel
theorem z0Z:k4! en! dk!:=by decide +kernel
theorem z2W:lC! nQ!=h4! nQ!:=by decide +kernel
theorem zif:lC! nR!=h4! nR!:=by decide +kernel
theorem zaX:lC! ly!=h4! ly!:=by decide +kernel
theorem zm9:k4! go! (ar! go!):=by decide +kernel
theorem zlY:lC! "sum"=h4! "sum":=by decide +kernel
theorem zS:k4! c2! dR!:=by decide +kernel
theorem zwI:a9! [oG!,b8!]:=by decide +kernel
theorem zw0:a9! [dy!,bP!,kZ!,"_law_turn"]:=by decide +kernel
theorem zvG:a9! [b8!]:=by decide +kernel
theorem zvU:a9! [eJ!,b8!]:=by decide +kernel
theorem zw1:a9! [e3!,eJ!,gt!]:=by decide +kernel
theorem zvv:a9! [f0!,gt!]:=by decide +kernel
theorem zwz:a9! [gt!,"_law_column"]:=by decide +kernel
theorem zwe:a9! [bP!,eJ!]:=by decide +kernel
theorem zvI:a9! [nx!,b8!,eJ!]:=by decide +kernel
theorem zwC:a9! [q5!,nx!,bP!,eJ!]:=by decide +kernel
theorem zsE:a9! [oA!,eJ!]:=by decide +kernel
theorem zve:a9! [ny!,bP!,oA!,eJ!,b8!]:=by decide +kernel
theorem zuC:a9! [eJ!,"_law_column"]:=by decide +kernel
theorem zsz:a9! [eq!,d5!,e3!]:=by decide +kernel
theorem zqa:a9! [e3!,gt!]:=by decide +kernel
theorem zvh:a9! [q4!,e3!]:=by decide +kernel
theorem zuH:a9! [e3!,"_law_side"]:=by decide +kernel
theorem zuy:a9! [gt!,lV!]:=by decide +kernel
theorem zns:a9! [e3!,nz!,b8!]:=by decide +kernel
theorem zrg:a9! [lX!,q3!,lV!]:=by decide +kernel
theorem zv8:a9! [eq!,d5!]:=by decide +kernel
theorem zto:a9! [in!,hS!]:=by decide +kernel
theorem zsA:a9! [aj!,cw!]:=by decide +kernel
theorem zv3:a9! [cx!,"ahead"]:=by decide +kernel
theorem zuv:a9! [lS!,oy!,eI!,cw!]:=by decide +kernel
theorem ztS:a9! [oy!,cw!,eI!,lR!]:=by decide +kernel
theorem ztA:a9! [in!,rk!]:=by decide +kernel
theorem zv0:a9! m5!:=by decide +kernel
theorem zsu:a9! ["part"]:=by decide +kernel
theorem ztV:a9! [iW!,cw!]:=by decide +kernel
theorem ztq:a9! [jK!,lR!,hS!]:=by decide +kernel
theorem ztR:a9! [qZ!,cw!]:=by decide +kernel
theorem zs5:a9! [hS!]:=by decide +kernel
theorem zuR:a9! [aj!,ho!,hS!,rk!]:=by decide +kernel
theorem zvj:a9! ["divided",aj!,ho!,"at"]:=by decide +kernel
theorem zua:a9! [q0!,"at"]:=by decide +kernel
theorem ztT:a9! [cx!,ho!,cw!,rk!]:=by decide +kernel
theorem ztF:a9! [lS!,cw!]:=by decide +kernel
theorem ztP:a9! [cw!,lR!]:=by decide +kernel
theorem ztm:a9! ["one",lR!]:=by decide +kernel
theorem zvb:a9! [kX!,cw!]:=by decide +kernel
theorem zuh:a9! [eI!,"at"]:=by decide +kernel
theorem ztD:a9! ["at",cw!]:=by decide +kernel
theorem zta:a9! [oz!,b8!]:=by decide +kernel
theorem zus:a9! [dP!,eq!,d5!]:=by decide +kernel
theorem zt6:a9! [eq!]:=by decide +kernel
section
local macro_rules | `(tactic| trivial)=>`(tactic| exact⟨rfl,rfl,rfl,by decide +kernel,rfl,by decide +kernel,by decide +kernel⟩)
theorem zdE:S! c5! c5! z7D:=by trivial
theorem zdU:S! c5! c5! z6Q:=by trivial
theorem z0w:S! m5! m5! z0y:=by trivial
theorem zdh:S! [cw!,kX!] [cw!,kX!] z6g:=by trivial
theorem z2b:S! [mw!,lS!] [mw!] z2i:=by trivial
theorem za0:S! [eI!] [eI!] z3d:=by trivial
theorem z9g:S! [jK!,"at_line",qZ!,"kept"] [jK!,"at_line",qZ!] z9s:=by trivial
theorem zfz:S! [cw!,lR!] [cw!,lR!] z9q:=by trivial
theorem ur:S! [aj!,"at"] h5! uo:=by trivial
theorem z89:S! h5! h5! z28:=by trivial
theorem zfL:S! [aj!,q0!] [aj!,q0!] z9B:=by trivial
theorem zfw:S! c5! c5! z92:=by trivial
theorem zk0:S! [cx!,kX!] [cx!,kX!] zf1:=by trivial
theorem z6O:S! [lU!,pA!] [lU!,pA!] z0X:=by trivial
theorem uB:S! ["_law_cell",b8!,"_law_j",oz!] ["_law_cell"] z83:=by trivial
theorem z4L:S! [dy!,pD!,gs!] [dy!,pD!] z5j:=by trivial
theorem zan:S! [] [] z2L:=by trivial
theorem zX:S! [f1!,bP!,f0!,"_law_order",nx!,oA!,q5!,hp!,ny!,eJ!,oB!,nz!,gt!] [f1!,bP!] z4B:=by trivial
theorem z9L:S! [bP!] [bP!] z2J:=by trivial
theorem zal:S! [f0!] [f0!] z3A:=by trivial
theorem uC:S! [jL!,kY!,gs!,gt!,pB!,eq!,d5!] [jL!,kY!] z7g:=by trivial
theorem z0r:S! [eq!,d5!,pB!,q3!,lV!] [eq!,d5!] z6N:=by trivial
theorem zad:S! [dP!] [dP!] z3G:=by trivial
theorem ja:S! [kY!,gs!,b8!,d5!] [kY!] z6e:=by trivial
theorem yI:S! [pQ!,hp!,"_law_words"] [pQ!] z0V:=by trivial
theorem za9:S! [iW!,"many"] [iW!,"many"] z2I:=by trivial
theorem z8B:S! [jK!,kX!] [jK!,kX!] z22:=by trivial
theorem zcI:S! [jK!] [jK!] z4V:=by trivial
theorem z93:S! [aj!,q1!,q2!] h5! z9i:=by trivial
theorem z7n:S! [aj!,q1!,q2!] h5! z6p:=by trivial
theorem zbA:S! [aj!,ho!] h5! zbs:=by trivial
theorem zg2:S! h5! h5! z9z:=by trivial
theorem z56:S! c5! c5! z4P:=by trivial
theorem wv:S! [dy!,f0!,pD!,"_law_thin",kY!,eJ!,b8!,oz!] [dy!] z7x:=by trivial
theorem z03:S! [f1!,bP!,pE!,pF!,oB!,jL!] [f1!,bP!] z6B:=by trivial
theorem jh:S! [eq!,d5!,f0!,q4!] [eq!,d5!] z10:=by trivial
theorem yu:S! [jL!,f0!,nz!,e3!,"_law_good","_law_first","_law_head",b8!,lX!] [jL!] z5i:=by trivial
theorem z42:S! [dP!,lX!] [dP!,lX!] kK:=by trivial
theorem z1b:S! [dy!,f1!,hp!] [dy!,f1!] z1y:=by trivial
theorem z1S:S! [dP!,b8!] [dP!] z1Z:=by trivial
theorem z6R:S! [dy!,hp!] [dy!] z7m:=by trivial
theorem zcO:S! [gs!,kZ!] [gs!,kZ!] z4M:=by trivial
theorem zgY:S! c5! c5! zcC:=by trivial
theorem zdt:S! c5! c5! z6J:=by trivial
theorem z2B:S! [cx!,aj!,"deal",ho!,"divided"] do! z7p:=by trivial
theorem zfH:S! [aj!,iW!,hS!] [aj!,iW!,hS!] z96:=by trivial
theorem xG:S! [f1!,bP!,pE!,pF!,"_law_whole_here",jL!,gs!,e3!] [f1!,bP!] z2P:=by trivial
theorem vx:S! [dy!,"_law_row",e3!,q6!,hp!] [dy!,"_law_row"] z53:=by trivial
theorem z37:S! [bP!,dP!] [bP!,dP!] jC:=by trivial
theorem z6s:S! c5! c5! z6i:=by trivial
theorem z3w:S! c5! c5! z3i:=by trivial
theorem yn:S! [dy!,bP!,dP!,oG!,ny!,lV!,q6!,"_law_wide",hp!] [dy!,bP!,dP!] qF:=by trivial
theorem z2T:S! [aj!,in!,hS!] h5! zbl:=by trivial
theorem zcc:S! h5! h5! z4J:=by trivial
theorem zaC:S! m5! m5! z34:=by trivial
theorem zaE:S! [eI!] [eI!] z3L:=by trivial
theorem qG:S! do! do! qK:=by trivial
theorem z2N:S! [aj!,iW!,in!,lT!,cw!] [aj!,iW!] z3n:=by trivial
theorem jU:S! [eI!,oy!,lS!] [eI!] z1W:=by trivial
theorem vq:S! [mw!,nw!,"products",eI!] [mw!,nw!] jq:=by trivial
theorem zco:S! do! do! z5h:=by trivial
theorem zde:S! [cx!,aj!,ho!,lT!,"left"] do! zh3:=by trivial
theorem z3c:S! [cx!,aj!,ho!,lT!] do! z3k:=by trivial
theorem zlB:S! [cx!,aj!,"lots"] do! zmp:=by trivial
theorem zaZ:S! do! do! z4N:=by trivial
theorem z2l:S! [cx!,aj!,nw!] do! z1V:=by trivial
theorem z8x:S! do! do! z1N:=by trivial
theorem zap:S! do! do! z3K:=by trivial
theorem zg3:S! do! do! z8X:=by trivial
theorem z3N:S! [cx!,aj!,cw!,in!] do! z9k:=by trivial
theorem z4O:S! ["_law_way",eq!,d5!,pQ!] ["_law_way",eq!,d5!] z4C:=by trivial
theorem z3j:S! [lU!,pA!,dy!,bP!,f1!,oG!,kZ!,dP!,"_law_bad"] [lU!] z8M:=by trivial
end
section
variable {P:Program}{w:World}{K:W.Frag}{mg:Str->aU!}{base:Heap}[T:Txt P w K mg]
local macro_rules | `(tactic| trivial)=>`(tactic| (intro _ _ _ _ _ _;first | (apply us0;exact rfl) | (apply us1;intro _;exact rfl) | (apply us2;intro _ _;exact rfl) | (apply us3;intro _ _ _;exact rfl)))
instance zmy:ai! "is_whole" 1 Pg.vF:= gl! 0 zdE (c8! (z5J (hc! (by decide) zc5 (by rfl) (by rfl) T.f7 Q!) (z7i (zqh (hc! (by decide) z7s (by rfl) (by rfl) T.f5 Q!))))) (by trivial)
instance zmo:ai! "has_size" 1 Pg.xa:= gl! 1 zdU (c8! (z5J (hc! (by decide) zS (by rfl) (by rfl) nA! Q!) (z7i (zoc zsB zsB (zvS (by rfl) T.f0) (zE wS (by rfl) T.f9 yV bM! (he:=(zr ..))) (zvS (by rfl) T.f1))))) (by trivial)
instance zgf:ai! "common_of_two" 1 Pg.vT:= b2! 2 z0w (have hu:=hr.units;(dd! (z70 _I (ef! K! zp) (zn (zrB 0 1 hc z0w.nd (aN K! (aB (zD zdq Q! K!) zg))))) Q!)) (by trivial)
instance zmM:ai! "together" 1 Pg.xY:= b2! 3 zdh (c8! (zE (zrf (by exact hc)) (by rfl) T.f16 zlY (cr! (aX! m5! jp! (by exact hc) (mX! (by rfl) (cR! 0 1)) (xK 0 1 (by exact hc) zv0) (xF 0 1 (by decide) (by rfl) (by rfl)) yb (zD va Q! K!))) (he:=(zF ..)))) (by trivial)
instance ziB:ai! "like_places" 1 Pg.xS:= b2! 4 z2b (have hu:=hr.units;(dd! (zW 1 z2b.nd (z7y (by exact hc) (by rfl) T.f10 (by rfl) rU! bM!)) (yk yM (by rfl) T.f17 zS (cr! (aX! [lS!,cw!] (F! 1) (by exact hc) (wj K!) (zK (i:=1) ztF (by rfl) (by first | exact bb! | exact bm!)) (zG 1 (by rfl)) yb (yk yM (by rfl) T.f17 zS (cr! (aX! [cw!,lR!] (F! 1) (by exact hc) ju! (zK (i:=1) ztP (by rfl) (by first | exact bb! | exact bm!)) (zG 1 (by rfl)) yb (zs6 (zZ ey! Q! K!) zp zp))) (he:=(zF ..))))) (he:=(zF ..))))) (by trivial)
instance zjo:ai! "columns_of" 1 Pg.yZ:= b2! 5 za0 (c8! (yk yM (by rfl) T.f17 zS (cr! (aX! [eI!,"at"] (F! 0) (by exact hc) (hx! (by rfl) (cs! (zE wS (by rfl) T.f9 yV bM! (he:=(zr ..))))) (zK (i:=1) zuh (by rfl) (by first | exact bb! | exact bm!)) (zG 1 (by rfl)) yb (yk yM (by rfl) T.f17 zS (cr! (aX! ["at",cw!] (F! 1) (by exact hc) ju! (zK (i:=1) ztD (by rfl) (by first | exact bb! | exact bm!)) (zG 1 (by rfl)) yb (ff! Q!))) (he:=(zF ..))))) (he:=(zF ..)))) (by trivial)
instance zn4:ai! "without" 1 Pg.xT:= b2! 6 z9g (dd! (zW 3 z9g.nd (bA! (yK Q! xD (xA K!)) (yK Q! (xA (j6! K!)) xD))) (yk yM (by rfl) T.f17 zS (cr! (aX! [qZ!,cw!] (F! 2) (by exact hc) (wj bX!) (zK (i:=1) ztR (by rfl) (by first | exact bb! | exact bm!)) (zG 1 (by rfl)) yb (bA! (yK K! xD (xA Q!)) (yK K! (xA (j6! Q!)) xD)))) (he:=(zF ..)))) (by trivial)
instance zoi:ai! "sign_at" 1 Pg.wB:= gl! 7 zfz (have hu:=hr.units;(c8! (zs6 (zZ ey! (zD zdq (bA! Q! K!) zp) zp) zp kJ!))) (by trivial)
instance zaq:ai! "greatest_and_others" 1 Pg.ya:= b2! 8 ur (dd! (zW 1 ur.nd (zdP Q! (zE (z4K (by exact hc)) (by rfl) T.f11 z2W bM! (he:=(zr ..))))) (xw (aN K! (aB (bA! (bA! (yK Q! xD (xA K!)) (xw h2!)) (yK Q! (xA (j6! K!)) xD)) zg)))) (by trivial)
instance ziN:ai! "least_place" 1 Pg.xp:= b2! 9 z89 (have hu:=hr.units;(c8! (zdP Q! (zE (zlN (by exact hc)) (by rfl) T.f12 zif (cr! (aX! [hS!] [a!] (by exact hc) ju! (zK (i:=0) zs5 (by rfl) (by first | exact bb! | exact bm!)) (zG 0 (by rfl)) (wR (ef! Q! zp)) Q!)) (he:=(zF ..)))))) (by trivial)
instance zp9:ai! "all_but" 1 Pg.qo:= b2! 10 zfL (have hu:=hr.units;(c8! (aX! [q0!,"at"] (F! 1) (by exact hc) (hx! (by rfl) (cs! (zE wS (by rfl) T.f9 yV bM! (he:=(zr ..))))) (zK (i:=1) zua (by rfl) (by first | exact bb! | exact bm!)) (zG 1 (by rfl)) (wR (ef! K! Q!)) K!))) (by trivial)
instance zoq:ai! "is_rule" 1 Pg.vQ:= gl! 11 zfw (c8! (z5J (hc! (by decide) zm9 (by rfl) (by rfl) T.f15 Q!) (z7i (zox T.T_RULES (by rfl) Q!)))) (by trivial)
instance zqA:ai! "moved" 1 Pg.z01:= gl! 12 zk0 (have hu:=hr.units;(c8! (zs6 (zZ ey! Q! xU) (bA! (yK K! (xA zp) xD) (yK K! xD (xA zp))) K!))) (by trivial)
instance zgt:ai! "_law_cell_at" 1 Pg.uR:= gl! 13 z6O (dd! (iC! (zZ zuM K! (zE wS (by rfl) T.f9 yV bM! (he:=(zr ..)))) (xB Q! K!)) zp) (by trivial)
instance zmC:ai! "_law_pot" 1 Pg.z1C:= b2! 14 uB (zh (iC! (zZ zuI Q! (zD zfQ zp zp)) (z8A (aB (zD z8s Q! (zD zfQ zp zp)) zg))) (c1! 1 uB.nd zp (z0K _I hc (hx! (by rfl) h2!) (qL 2 uB.nd) (c1! 3 uB.nd (zD zdq (zD va (j6! (bA! (zD zdq Q! zp) (zD va zp aC!))) zp) zp) (zW 3 uB.nd (zD zdq (j6! (bA! (zD va bX! bX!) (zD va zp aC!))) zp)) (zn (zW 1 uB.nd (bA! (zD va K! zp) bX!))))) (c8! (z8A b4!)))) (by trivial)
instance zjE:ai! "_law_take" 1 pS!:= gl! 15 z4L (c1! 2 z4L.nd (zD zdq (xB Q! zp) K!) (z1n (zD zc7 (xB Q! zp) K!) Q! zp) (c8! aC!)) (by trivial)
instance zjg:ai! "_law_rules" 1 Pg.jF:= gl! 16 zan (c8! (wT (lg! (lg! zg)))) (by trivial)
instance zkM:ai! "_law_step" 1 Pg.z20:= (b2! 17 zX (have hu:=hr.units;(c1! 2 nB! (zE wS (by rfl) T.f9 yV b4! (he:=(zr ..))) (o5! 3 (zE zjH (by rfl) T.f14 zaX (cr! (aX! [eJ!,b8!] jp! (by exact hc) (zcp (by rfl) T.f6 b4!) (xK 0 1 (by exact hc) zvU) (xF 0 1 (by decide) (by rfl) (by rfl)) (wR (zZ zpl K! zp)) (xw (cR! 1 0)))) (he:=(zF ..)))) (c1! 4 nB! (xB (aX! [bP!,eJ!] (F! 1) (by exact hc) (hx! (by rfl) (cy! 2)) (zK (i:=1) zwe (by rfl) (by first | exact bb! | exact bm!)) (zG 1 (by rfl)) (wR (zZ ey! (xB Q! K!) (zE (z4K (by exact hc)) (by rfl) T.f11 z2W bM! (he:=(zr ..))))) K!) zp) (o5! 5 (zr7 (by decide) (xB (xB bX! zp) zp) zp Q!)) (kp! (hJ! (zZ ey! Q! xU) (o5! 5 (xB (aX! [nx!,b8!,eJ!] (dE! 4) (by exact hc) (wj bX!) (xK 1 2 (by exact hc) zvI) (xF 1 2 (by decide) (by rfl) (by rfl)) (wR (ef! aC! Q!)) aC!) zp))) (kS (zZ ey! Q! xU) (zh (o5! 6 (zE (z4K (by exact hc)) (by rfl) T.f11 z2W (cr! (aX! [nx!,b8!,eJ!] (dE! 4) (by exact hc) (wj bX!) (xK 1 2 (by exact hc) zvI) (xF 1 2 (by decide) (by rfl) (by rfl)) (wR (ef! aC! Q!)) K!)) (he:=(zF ..)))) (zn (o5! 5 (xB (aX! [q5!,nx!,bP!,eJ!] (fv! 6 4 1) (by exact hc) (hx! (by rfl) (cy! 2)) (zK (i:=3) zwC (by rfl) (by first | exact bb! | exact bm!)) (zG 3 (by rfl)) (wR (RW.rt (w_and (zZ ey! (hH! bX!) Q!) (zhD (ef! bX! K!))))) bX!) zp)))) yz) (kp! (zda 7 [oA!,eJ!] (F! 5) nB! hc (hx! (by rfl) (cy! 2)) (fH! (zK (i:=1) zsE (by rfl) (by first | exact bb! | exact bm!))) (zG 1 (by rfl)) (fH! (wR (ef! K! Q!))) (fH! K!)) (hJ! (zZ zvF Q! (xw (lg! zg))) (o5! 7 (wT (cy! 4)))) (c1! 8 nB! (zD zpU (z8A h2!) aC!) (z0K _I hc (wj (zc 7)) (qL 9 nB!) (zn (hJ! (zZ zpl (ff! (zc 5)) zp) (z1n (zD zc7 (ff! (zc 9)) (ff! (zc 5))) (zc 8) (zc 9))))) (zh (zda 10 [ny!,bP!,oA!,eJ!,b8!] [b! 8,b! 1,b! 5,a!,a!] nB! hc (zcp (by rfl) T.f6 b4!) (fH! (xK 3 4 (by exact hc) zve)) (xF 3 4 (by decide) (by rfl) (by rfl)) (fH! yb) (fH! (zD z8s (zc 4) (zD va (xB Q! bX!) (ff! aC!))))) (c1! 11 nB! (z8A zg) (z0K _I hc (hx! (by rfl) (cy! 2)) (qL 9 nB!) (zh (zoB 12 [eJ!,"_law_column"] (F! 9) nB! hc (hx! (by rfl) (cy! 2)) (fH! (zK (i:=1) zuC (by rfl) (by first | exact bb! | exact bm!))) (zG 1 (by rfl)) (fH! yb) (fH! (yk znR (by rfl) T.f7 zc5 (aM (qC ey! Q! K!) zg) (he:=(z5Q ..))))) (kp! (z1n (bA! (xB (zc 12) (zc 5)) (xB (zc 8) (zc 9))) (zc 12) (zc 5)) (hJ! (zZ ey! Q! xU) (o5! 12 (bA! (yK (zc 12) (xA zp) xD) (yK (zc 12) xD (xA zp))))) (zn (ve (z0n (zc 11) (yk yM (by rfl) T.f17 zS (cy! 12) (he:=(zr ..))))))))) (dd! (hJ! (zZ ey! Q! xU) (o5! 10 (bA! (yK (zc 10) (xA zp) xD) (yK (zc 10) xD (xA zp))))) (xw (aQ (yk yM (by rfl) T.f17 zS (cy! 10) (he:=(zr ..))) (cs! (yk yM (by rfl) T.f17 zS (cy! 11) (he:=(zr ..))))))))))))))) (by trivial)).tidy
instance zjr:ai! "_law_ended" 1 Pg.xE:= b2! 18 z9L (have hu:=hr.units;(c8! (qC ey! (zE wS (by rfl) T.f9 yV (cr! (aX! [b8!] [a!] (by exact hc) ju! (zK (i:=0) zvG (by rfl) (by first | exact bb! | exact bm!)) (zG 0 (by rfl)) (wR (zZ zpl Q! zp)) Q!)) (he:=(zF ..))) zp))) (by trivial)
instance zjk:ai! "_law_plain" 1 Pg.xC:= b2! 19 zal (have hu:=hr.units;(c8! (yk yM (by rfl) T.f17 zS (cr! (aX! [f0!,gt!] (F! 0) (by exact hc) (hx! (by rfl) bM!) (zK (i:=1) zvv (by rfl) (by first | exact bb! | exact bm!)) (zG 1 (by rfl)) yb (yk yM (by rfl) T.f17 zS (cr! (aX! [gt!,"_law_column"] (F! 1) (by exact hc) (hx! (by rfl) bM!) (zK (i:=1) zwz (by rfl) (by first | exact bb! | exact bm!)) (zG 1 (by rfl)) yb (yk znR (by rfl) T.f7 zc5 (aM (qC ey! Q! K!) zg) (he:=(z5Q ..))))) (he:=(zF ..))))) (he:=(zF ..))))) (by trivial)
instance zmg:ai! "_law_led" 1 Pg.z8V:= (b2! 20 uC (c1! 2 uC.nd (z8A zg) (z0K _I hc ju! (qL 3 uC.nd) (c1! 4 uC.nd zp (z0K _I hc (mX! (by rfl) (cR! 3 1)) (z2Y 5 6 hc uC.nd) (zn (zW 4 uC.nd (bA! (zc 4) (zD va (zc 5) (zc 6)))))) (zn (ve (z0n aC! (zc 4)))))) (c8! (yk yM (by rfl) T.f17 zS (cy! 2) (he:=(zr ..))))) (by trivial)).tidy
instance zmq:ai! "_law_dot" 1 Pg.kH:= b2! 21 z0r (c1! 2 z0r.nd zp (z0K _I hc (mX! (by rfl) (cR! 0 1)) (z2Y 3 4 hc z0r.nd) (zn (zW 2 z0r.nd (bA! aC! (zD va bX! (zc 4)))))) (c8! aC!)) (by trivial)
instance zji:ai! "_law_whole" 1 Pg.yY:= gl! 22 zad (c8! (z5J (hc! (by decide) zc5 (by rfl) (by rfl) T.f7 Q!) (z7i (zqh (hc! (by decide) z7s (by rfl) (by rfl) T.f5 Q!))))) (by trivial)
instance zm7:ai! "_law_gcd" 1 Pg.z1G:= b2! 23 ja (have hu:=hr.units;(c1! 1 ja.nd zp (z0K _I hc ju! (qL 2 ja.nd) (zh (zW 3 ja.nd aC!) (zn (z70 _I (ef! bX! zp) (zn (zrB 1 3 hc ja.nd (jP! 3 (aB (zD zdq K! bX!) zg)))))))) (c8! K!))) (by trivial)
instance zgp:HsH P w K mg R! CX0 "_law_kind_of" 1 vc:= zpw (gY! 24) yI (λhr=> have hu:=hr.units;(c1! 1 pT! (wT (aQ (ib! (by decide) (by rfl) (by rfl)) (aQ (ib! (by decide) (by rfl) (by rfl)) (aQ (ib! (by decide) (by rfl) (by rfl)) (cs! (ib! (by decide) (by rfl) (by rfl))))))) (zW 1 pT! (bA! K! (wT (aQ (ib! (by decide) (by rfl) (by rfl)) (aQ (ib! (by decide) (by rfl) (by rfl)) (aQ (ib! (by decide) (by rfl) (by rfl)) (cs! (ib! (by decide) (by rfl) (by rfl))))))))) (c1! 1 pT! (bA! K! (wT (aQ (ib! (by decide) (by rfl) (by rfl)) (aQ (ib! (by decide) (by rfl) (by rfl)) (aQ (ib! (by decide) (by rfl) (by rfl)) (cs! (ib! (by decide) (by rfl) (by rfl)))))))) (zW 1 pT! (bA! K! (wT (aQ (ib! (by decide) (by rfl) (by rfl)) (aQ (ib! (by decide) (by rfl) (by rfl)) (aQ (ib! (by decide) (by rfl) (by rfl)) (cs! (ib! (by decide) (by rfl) (by rfl))))))))) (c1! 1 pT! (bA! K! (wT (cs! (ib! (by decide) (by rfl) (by rfl))))) (iC! (lf! (ef! (zju K! z6a) zp) (z5A (eC! (zsJ T.FM (by rfl) T.f8 (by rfl) T.f2 Q!)))) xU) (c1! 2 pT! (wT (aK xU (lg! (lg! (lg! (lg! zg)))))) (zW 2 pT! (bA! aC! (wT (lg! (lg! (lg! (lg! zg))))))) (c8! (hH! (zkR K! z6a)))))))) (by trivial)
instance zjl:ai! "are_wholes" 2 Pg.zN:= b2! 25 za9 (have hu:=hr.units;(dd! (iC! (lf! (eC! (hc! (by decide) zS (by rfl) (by rfl) nA! Q!)) (z5A (ef! (zE wS (by rfl) T.f9 yV bM! (he:=(zr ..))) K!))) z6a) (zE (zks (by exact hc)) (by rfl) T.f4 zeb (cr! (aX! ["part"] [a!] (by exact hc) ju! (zK (i:=0) zsu (by rfl) (by first | exact bb! | exact bm!)) (zG 0 (by rfl)) yb hA!)) (he:=(zF ..))))) (by trivial)
instance zho:ai! "lines_times" 2 Pg.xO:= b2! 26 z8B (c8! (yk yM (by rfl) T.f17 zS (cr! (aX! [kX!,cw!] (F! 1) (by exact hc) ju! (zK (i:=1) zvb (by rfl) (by first | exact bb! | exact bm!)) (zG 1 (by rfl)) yb (eb! 1 0))) (he:=(zF ..)))) (by trivial)
theorem uV(k:Nat) (Hr:ai! "number_of" (k+1) (Pg.yJ k)):ai! "number_of" (k+1+1) (Pg.yJ (k+1)):= b2! 27 zcI (have hu:=hr.units;(dd! (iC! (zZ ey! (zE wS (by rfl) T.f9 yV bM! (he:=(zr ..))) zp) (xB (xB Q! zp) zp)) (zE (zrf (by exact hc)) (by rfl) T.f16 zlY (cr! (aX! [jK!,lR!,hS!] (dE! 0) (by exact hc) (zcp (by rfl) T.f6 (aS (xB Q! zp) zg)) (xK 1 2 (by exact hc) ztq) (xF 1 2 (by decide) (by rfl) (by rfl)) yb (zD va (zD va (kl! (d8! b4!)) aC!) (r_k hr (cs! (iw! 0 (d8! b4!))) (he:=(xu ..)))))) (he:=(zF ..))))) (by trivial)
instance zkh:ai! "number_of" 5 Pg.xH:= uV 3 (uV 2 (uV 1 (uV 0 (zqI (ps:=[jK!]) (gY! 27) (by trivial) 1))))
instance zne:ai! nb! 2 Pg.jf:= b2! 28 z93 (dd! (z9G hA! (z2Y 1 2 hc z93.nd)) (xw (aQ (zdP aC! (zE (z4K (by exact hc)) (by rfl) T.f11 z2W (cy! 2) (he:=(zr ..)))) (aL (wT b4!) zg)))) (by trivial)
instance zlE:ai! nc! 2 Pg.uy:= b2! 29 z7n (dd! (z9G hA! (z2Y 1 2 hc z7n.nd)) (xw (aQ (iw! 2 zg) (aL (wT b4!) zg)))) (by trivial)
instance zpj:ai! nd! 2 Pg.z0g:= gl! 30 zbA (dd! (zW 1 zbA.nd hA!) (xw (aN K! (cs! (eb! 0 1))))) (by trivial)
instance znB:ai! ne! 2 Pg.jk:= gl! 31 zg2 (have hu:=hr.units;(dd! (iC! (zZ ey! (xB Q! zp) zp) (xw (d8! (aL (wT zg) zg)))) (xw (d8! (cs! (jq! 0)))))) (by trivial)
instance zjp:f5! P w K mg dJ! "want_rule" 2 Pg.uI:= mZ! (gY! 32) z56 (zn (hJ! (eC! (o1! zbH bM!)) (z9D T.E_NoRule z5W hc (by rfl)))) (by trivial)
instance zlb:ai! "want_rule" 2 Pg.uG:= gl! 32 z56 (zn (hJ! (eC! hA!) z6u)) (by trivial)
instance zlw:ai! "_law_lot" 2 Pg.z1H:= (b2! 33 wv (have hu:=hr.units;(c1! 1 pU! (bA! zp (jq! 0)) (zW 2 pU! (xB (wT (d8! (d8! (aB (zD zfQ zp zp) (aB (zD zfQ zp zp) (d8! h2!)))))) (jq! 0))) (c1! 3 pU! (jq! 0) (zW 4 pU! (z8A zg)) (kp! (z0K _I hc (hx! (by rfl) b4!) (qL 5 pU!) (zh (zW 6 pU! (j6! (eb! 0 2))) (zn (ve (z0n (zc 4) (zD va (zc 6) (yk znR (by rfl) T.f7 zc5 (aM (qC zuI (jq! 0) bX!) zg) (he:=(z5Q ..))))))))) (hJ! (zZ ey! (zE (z4K (by exact hc)) (by rfl) T.f11 z2W (cy! 4) (he:=(zr ..))) zp) (z1n (bA! zp (eb! 0 2)) (zc 4) (eb! 0 1))) (c1! 7 pU! (bA! zp (jq! 0)) (hJ! (zZ ey! (jq! 0) zp) (z1n (xB (zc 4) (eb! 0 1)) (zc 4) (eb! 0 1))) (dd! (hJ! (zZ ey! (zE (z4K (by exact hc)) (by rfl) T.f11 z2W (cy! 4) (he:=(zr ..))) zp) (z1n zp (zc 4) zp)) (yk yM (by rfl) T.f17 zS (cr! (aX! [oz!,b8!] (F! 7) (by exact hc) (wj (zc 4)) (zK (i:=1) zta (by rfl) (by first | exact bb! | exact bm!)) (zG 1 (by rfl)) yb (zD va K! Q!))) (he:=(zF ..))))))))) (by trivial)).tidy
instance zmk:ai! "_law_run" 2 Pg.z0j:= b2! 34 z03 (c1! 2 z03.nd (z8A b4!) (zW 3 z03.nd (z8A zg)) (dd! (z70 _I (eC! (r_k hr (aS (hH! kJ!) zg) (he:=(uY ..)))) (kp! (z9G (iw! 0 (aS (hH! kJ!) zg)) (z2Y 4 5 hc z03.nd)) (ve (z0n aC! (zc 4))) (zn (ve (z0n bX! (zc 5)))))) (xw (cR! 2 3)))) (by trivial)
instance zgl:ai! "_law_product" 2 Pg.jX:= b2! 35 jh (c1! 2 jh.nd (zE wS (by rfl) T.f9 yV bM! (he:=(zr ..))) (zW 3 jh.nd (aX! [eq!,d5!,e3!] (fw! 0 1) (by exact hc) (hx! (by rfl) (cy! 2)) (zK (i:=2) zsz (by rfl) (by first | exact bb! | exact bm!)) (zG 2 (by rfl)) yb (iw! 0 (cr! (aX! [e3!,gt!] (F! 2) (by exact hc) (wj K!) (zK (i:=1) zqa (by rfl) (by first | exact bb! | exact bm!)) (zG 1 (by rfl)) yb (ff! Q!)))))) (c8! (yk yM (by rfl) T.f17 zS (cr! (aX! [q4!,e3!] (F! 3) (by exact hc) (hx! (by rfl) (cy! 2)) (zK (i:=1) zvh (by rfl) (by first | exact bb! | exact bm!)) (zG 1 (by rfl)) yb (yk yM (by rfl) T.f17 zS (cr! (aX! [e3!,"_law_side"] (F! 1) (by exact hc) ju! (zK (i:=1) zuH (by rfl) (by first | exact bb! | exact bm!)) (zG 1 (by rfl)) yb (ff! Q!))) (he:=(zF ..))))) (he:=(zF ..))))) (by trivial)
instance zjW:ai! "_law_back" 2 jn:= (b2! 36 yu (have hu:=hr.units;(zh (zW 1 k1! (zE wS (by rfl) T.f9 yV bM! (he:=(zr ..)))) (c1! 2 k1! (zfj [gt!,lV!] jp! (by exact hc) (mX! (by rfl) (aN Q! (cs! (kl! b4!)))) (fH! (xK 0 1 (by exact hc) zuy)) (xF 0 1 (by decide) (by rfl) (by rfl)) (fH! yb) (fH! (bA! (yk zbq (by rfl) T.f10 z0Z bM! (he:=(zr ..))) (yk zbq (by rfl) T.f10 z0Z b4! (he:=(zr ..)))))) (z0K _I hc (hx! (by rfl) b4!) (qL 3 k1!) (zn (z70 _I (ef! (aX! [e3!,gt!] (F! 3) (by exact hc) (wj (yK aC! (xA (j6! bX!)) xD)) (zK (i:=1) zqa (by rfl) (by first | exact bb! | exact bm!)) (zG 1 (by rfl)) (wR (ef! (ff! Q!) zp)) K!) (wT zg)) (zh (zda 4 [e3!,nz!,b8!] (fw! 3 2) k1! hc (zeE (by rfl) rU! (cR! 3 1)) (fH! (zK (i:=2) zns (by rfl) (by first | exact bb! | exact bm!))) (zG 2 (by rfl)) (fH! (wR (ef! (xB (ff! aC!) Q!) zp))) (fH! aC!)) (c1! 5 k1! (xB (xB (zE zoS (by rfl) T.f14 zaX (cr! (aX! [e3!,nz!,b8!] (fw! 3 2) (by exact hc) (wj (zc 4)) (zK (i:=2) zns (by rfl) (by first | exact bb! | exact bm!)) (zG 2 (by rfl)) yb (xw (aQ (zE zv4 (by rfl) T.f3 zpH (aS (xB (ff! aC!) Q!) zg) (he:=(uY ..))) (cy! 2))))) (he:=(zF ..))) zp) zp) (zW 6 k1! (hH! (zc 5))) (kp! (z1n (hH! bX!) aC! (zc 5)) (z1n (zc 6) aC! bX!) (zn (z0K _I hc (zeE (by rfl) rU! (aB (j6! bX!) b4!)) (qL 7 k1!) (zh (zW 8 k1! (zD zoW (xB (hH! (zc 7)) bX!) (xB (zc 6) bX!))) (zn (z1n (aX! [lX!,q3!,lV!] (dE! 8) (by exact hc) (mX! (by rfl) (jP! 6 (aS (hH! (zc 7)) zg))) (xK 1 2 (by exact hc) zrg) (xF 1 2 (by decide) (by rfl) (by rfl)) yb (zD z8s aC! (zD ziI Q! K!))) aC! (zc 7)))))))))))) (dd! (z0K _I hc (zqC (by rfl) rU! (aB (zD z8s K! zp) (aU kJ! (aU kJ! zg)))) (qL 3 k1!) (zh (z1n (aX! [e3!,nz!,b8!] (fw! 3 2) (by exact hc) (wj (hH! bX!)) (zK (i:=2) zns (by rfl) (by first | exact bb! | exact bm!)) (zG 2 (by rfl)) yb (zD ziI aC! (xB (ff! Q!) Q!))) aC! bX!) (zn (z0K _I hc (hx! (by rfl) (cy! 3)) (qL 7 k1!) (c1! 6 k1! (hH! bX!) (zW 8 k1! (xB (hH! (zc 7)) bX!)) (zn (z1n (aX! [lX!,q3!,lV!] (dE! 8) (by exact hc) (mX! (by rfl) (jP! 6 (aS (hH! (zc 7)) zg))) (xK 1 2 (by exact hc) zrg) (xF 1 2 (by decide) (by rfl) (by rfl)) yb (zD z8s aC! (zD ziI Q! K!))) aC! (zc 7)))))))) (yk yM (by rfl) T.f17 zS (cr! (aX! [f0!,gt!] (F! 1) (by exact hc) (wj aC!) (zK (i:=1) zvv (by rfl) (by first | exact bb! | exact bm!)) (zG 1 (by rfl)) yb (yk yM (by rfl) T.f17 zS (aS (yK K! (xA Q!) xD) zg) (he:=(uY ..))))) (he:=(zF ..))))))) (by trivial)).tidy
instance zf2:ai! "_law_are_whole" 2 pR!:= b2! 37 z42 (have hu:=hr.units;(c8! (z5J (hc! (by decide) zS (by rfl) (by rfl) nA! Q!) (z5J (qC ey! (zE wS (by rfl) T.f9 yV bM! (he:=(zr ..))) K!) (z7i (zE (zks (by exact hc)) (by rfl) T.f4 zeb (cr! (aX! [eq!] [a!] (by exact hc) ju! (zK (i:=0) zt6 (by rfl) (by first | exact bb! | exact bm!)) (zG 0 (by rfl)) yb hA!)) (he:=(zF ..)))))))) (by trivial)
instance zgn:ai! "_law_no_rule" 2 Pg.xq:= gl! 38 z1b (dd! (zW 2 z1b.nd (wT (aQ (zn6 K!) (aB (zD zlF K! xU) (aS (zjS K! (xA zp)) (aB (zD zlF K! xU) (aK xU (aK ziE (d8! (aT (xw b4!) (aL (wT b4!) (aK z6a (jz zpB zg (by rfl)))))))))))))) (hH! (jq! 0))) (by trivial)
instance zi7:ai! "_law_is_lot" 2 Pg.yG:= b2! 39 z1S (zh (iC! (lf! (eC! (hc! (by decide) zS (by rfl) (by rfl) nA! Q!)) (z5A (zZ znZ (zE wS (by rfl) T.f9 yV bM! (he:=(zr ..))) (xw (d8! (d8! h2!)))))) z6a) (dd! (z0K _I hc ju! (qL 1 z1S.nd) (zn (iC! (lf! (eC! (kl! b4!)) (z5A (zZ zuM K! zp))) z6a))) (qC zpl (zE (z4K (by exact hc)) (by rfl) T.f11 z2W bM! (he:=(zr ..))) zp))) (by trivial)
instance zmn:ai! "_law_odd" 2 Pg.kB:= gl! 40 z6R (dd! (by refine zW (i:=1) (hN:=?_) (he:=?_) (hi:=?_) (hx:=?_) (hs:=?_) (hf:=?_);exact z6R.nd;exact (wT (aK ziE (aK z6a (aK z6a (aU kJ! (d8! (d8! (aB (zD zfQ zp zp) (lg! (aT (xw zg) (aT (xw (d8! h2!)) (aT (xw h2!) (aL (wT (d8! h2!)) (jz zpB zg (by rfl)))))))))))))));rfl;(first | exact bb! | exact bm!);rfl;(first | exact c7! | exact T! rfl | assumption)) (xB (bA! K! (wT (aT (xw (aT (xw (d8! h2!)) (aT (xw (d8! h2!)) zg))) (aT (xw (aK z6a h2!)) zg)))) (jq! 0))) (by trivial)
theorem wY(k:Nat) (Hr:ai! "_law_same" (k+1) (Pg.zJ k)):ai! "_law_same" (k+1+1) (Pg.zJ (k+1)):= b2! 41 zcO (have hu:=hr.units;(zh (kS (vH (ztQ (by decide) (by decide) z0Z zS (by rfl) T.f8 (by rfl) T.f10 (by rfl) nA! K!)) (dd! (iC! (lf! (ef! (hc! (by decide) z0Z (by rfl) (by rfl) T.f10 K!) (hc! (by decide) z0Z (by rfl) (by rfl) T.f10 Q!)) (z5A (ef! (hc! (by decide) zS (by rfl) (by rfl) nA! K!) (hc! (by decide) zS (by rfl) (by rfl) nA! Q!)))) z6a) (z5J (qC ey! (zE wS (by rfl) T.f9 yV bM! (he:=(zr ..))) (zE wS (by rfl) T.f9 yV b4! (he:=(zr ..)))) (z7i (zE (zks (by exact hc)) (by rfl) T.f4 zeb (cr! (aX! [eq!,d5!] jp! (by exact hc) (mX! (by rfl) (cR! 0 1)) (xK 0 1 (by exact hc) zv8) (xF 0 1 (by decide) (by rfl) (by rfl)) yb (eb! 0 1))) (he:=(zF ..)))))) yz) (dd! (iC! (lf! (zZ zw5 K! ziE) (zcU (vH (hc! (by decide) z7s (by rfl) (by rfl) T.f5 K!)) (z5A (vH (hc! (by decide) zm9 (by rfl) (by rfl) T.f15 K!))))) (z5J (qC ey! Q! K!) (z7i (qC ey! (hc! (by decide) z7s (by rfl) (by rfl) T.f5 Q!) (hc! (by decide) z7s (by rfl) (by rfl) T.f5 K!))))) (z5J hA! (z7i (qC ey! Q! K!)))))) (by trivial)
instance zkk:ai! "_law_same" 6 Pg.uz:= wY 4 (wY 3 (wY 2 (wY 1 (wY 0 (zqI (ps:=[gs!,kZ!]) (gY! 41) (by trivial) 1)))))
instance zpc:ai! "is_lot" 3 Pg.xl:= b2! 42 zgY (dd! (iC! (lf! (eC! hA!) (z5A (eC! (iw! 0 (cs! (zE wS (by rfl) T.f9 yV bM! (he:=(zr ..)))))))) z6a) (z5J (qC zuI (zE (zlN (by exact hc)) (by rfl) T.f12 zif bM! (he:=(zr ..))) zp) (z7i (qC zpl (zE (z4K (by exact hc)) (by rfl) T.f11 z2W bM! (he:=(zr ..))) zp)))) (by trivial)
instance zmK:ai! "is_table" 3 Pg.uv:= b2! 43 zdt (dd! (iC! (eC! hA!) z6a) (zE (zks (by exact hc)) (by rfl) T.f4 zeb (cr! (aX! [iW!,cw!] (F! 0) (by exact hc) ju! (zK (i:=1) ztV (by rfl) (by first | exact bb! | exact bm!)) (zG 1 (by rfl)) yb (iw! 1 (cs! (zE wS (by rfl) T.f9 yV bM! (he:=(zr ..))))))) (he:=(zF ..)))) (by trivial)
instance zlt:ai! "division" 3 Pg.vE:= b2! 44 z2B (c1! 2 z2B.nd (zsZ T.T_RULES (by rfl) Q! (λ_ _=>rfl)) (z9G (zow (n:=2) 2 (kM (rl! (hr.has nb!) (by decide)) (kM (rl! (hr.has nc!) (by decide)) (kM (rl! (hr.has nd!) (by decide)) (kM (rl! (hr.has ne!) (by decide)) zeg)))) (hr.mono (by decide)) zkE b4! (he:=(zr ..))) (z2Y 3 4 hc z2B.nd)) (c8! (xw (jP! 3 (cr! (aX! ["divided",aj!,ho!,"at"] (fv! 4 1 3) (by exact hc) (hx! (by rfl) (cs! (zE wS (by rfl) T.f9 yV b4! (he:=(zr ..))))) (zK (i:=3) zvj (by rfl) (by first | exact bb! | exact bm!)) (zG 3 (by rfl)) yb (zs6 (zZ zvF bX! Q!) (zD zc7 (ff! bX!) (ff! aC!)) zp))))))) (by trivial)
instance zmW:ai! "come_to" 3 Pg.ua:= gl! 45 zfH (have hu:=hr.units;(c8! (z5J (iw! 1 (cs! (zE wS (by rfl) T.f9 yV bM! (he:=(zr ..))))) (z7i (qC ey! (eb! 1 0) aC!))))) (by trivial)
instance zjt:ai! "_law_lines" 3 qm:= (b2! 46 xG (have hu:=hr.units;(zh (z9G (eb! 0 1) (z2Y 2 3 hc rm!)) (c1! 4 rm! (r_k hr (cs! (zE wS (by rfl) T.f9 yV b4! (he:=(zr ..)))) (he:=(xu ..))) (z0K _I hc (wj bX!) (qL 5 rm!) (zn (zW 4 rm! (eb! 4 5)))) (c1! 6 rm! (iw! 4 zg) (zW 7 rm! (xB (aX! [eJ!,b8!] jp! (by exact hc) (zcp (by rfl) T.f6 (aS (hH! kJ!) zg)) (xK 0 1 (by exact hc) zvU) (xF 0 1 (by decide) (by rfl) (by rfl)) (wR (zZ zpl K! zp)) Q!) zp)) (c8! (bA! (wT (aS (xB (zc 6) (zc 7)) zg)) (aX! [e3!,eJ!,gt!] (dE! 7) (by exact hc) (zcp (by rfl) T.f6 (cy! 6)) (xK 1 2 (by exact hc) zw1) (xF 1 2 (by decide) (by rfl) (by rfl)) (wR (ef! K! Q!)) aC!))))))) (by trivial)).tidy
instance zjN:ai! "_law_bent" 3 Pg.uu:= gl! 47 vx (c1! 2 vx.nd (iw! 0 (cs! (zE wS (by rfl) T.f9 yV b4! (he:=(zr ..))))) (zW 3 vx.nd (wT (aB (j6! (ff! aC!)) (aB (zD z8s (ff! aC!) zp) (aB (zD z8s zp (ff! aC!)) (d8! (aK z6a (aK ziE (aK xU (aT (xw h2!) (aB (zD zfQ zp zp) (aS (ff! (zD z8s aC! zp)) zg)))))))))))) (c1! 3 vx.nd (xB bX! (jq! 0)) (zW 4 vx.nd (wT (aB (bA! (bA! (yK K! xD (xA aC!)) (xw (cy! 3))) (yK K! (xA (j6! aC!)) xD)) (aB (bA! (bA! (yK K! xD (xA aC!)) (xw (cy! 3))) (yK K! (xA (j6! aC!)) xD)) (aB (bA! (yK K! xD (xA aC!)) (yK K! (xA (j6! aC!)) xD)) (cs! (yk zbq (by rfl) T.f10 z0Z b4! (he:=(zr ..))))))))) (dd! (zW 4 vx.nd (bA! (zc 4) (wT (aB (bA! (bA! (yK K! xD (xA aC!)) (xw h2!)) (yK K! (xA aC!) xD)) (aS (zvf K!) (aB (bA! K! K!) (aB (zD zrF (xw h2!) (zE wS (by rfl) T.f9 yV b4! (he:=(zr ..)))) (aQ hA! (aT (xw b4!) zg))))))))) (xB (zc 4) (jq! 0))))) (by trivial)
instance zdi:ai! "_law_is_showing" 3 ye:= b2! 48 z37 (have hu:=hr.units;(kp! (iC! (lf! (eC! (hc! (by decide) zS (by rfl) (by rfl) nA! K!)) (zcU (ef! (zE wS (by rfl) T.f9 yV b4! (he:=(zr ..))) zp) (zcU (eC! (r_k hr (aS (ff! zp) zg) (he:=(uY ..)))) (z5A (zZ zuM (ff! zp) zp))))) z6a) (iC! (lf! (eC! (r_k hr (aS (ff! zp) (cs! (zE wS (by rfl) T.f9 yV bM! (he:=(zr ..))))) (he:=(uY ..)))) (z5A (eC! (r_k hr (aS (ff! zp) (cs! (zE wS (by rfl) T.f9 yV bM! (he:=(zr ..))))) (he:=(uY ..)))))) z6a) (dd! (iC! (ef! (aX! [dP!,eq!,d5!] (dE! 1) (by exact hc) (mX! (by rfl) (aS (ff! zp) bM!)) (xK 1 2 (by exact hc) zus) (xF 1 2 (by decide) (by rfl) (by rfl)) (wR (ef! (zD va K! (xB Q! zp)) aC!)) zp) (wT zg)) z6a) (qC ey! (r_k hr (aS (ff! zp) bM!) (he:=(uY ..))) (ff! zp))))) (by trivial)
instance zky:f5! P w K mg dJ! "want_lot" 4 Pg.vy:= mZ! (gY! 49) z6s (zn (hJ! (eC! (o1! zbH bM!)) (z9D T.E_NoLot z5W hc (by rfl)))) (by trivial)
instance zmO:ai! "want_lot" 4 Pg.yP:= gl! 49 z6s (zn (hJ! (eC! hA!) z6u)) (by trivial)
instance zhO:f5! P w K mg dJ! "want_table" 4 Pg.z14:= mZ! (gY! 50) z3w (zn (hJ! (eC! (o1! zbH bM!)) (z9D T.E_NoTable z5W hc (by rfl)))) (by trivial)
instance zjm:ai! "want_table" 4 Pg.yN:= gl! 50 z3w (zn (hJ! (eC! hA!) z6u)) (by trivial)
instance zcu:ai! "_law_bent_showing" 4 yq:= b2! 51 yn (zh (z9G aC! (zqD 3 4 5 hc rn!)) (c1! 6 rn! (xB (wT (d8! (aB (zD va zp bX!) (aB (zD z8s zp bX!) (d8! (aK z6a (aK ziE (aK xU (aT (xw (cy! 3)) (aB (j6! bX!) zg)))))))))) (jq! 0)) (zW 7 rn! (yk yM (by rfl) T.f17 zS (cr! (aX! [b8!] [a!] (by exact hc) (wj (zc 5)) (zK (i:=0) zvG (by rfl) (by first | exact bb! | exact bm!)) (zG 0 (by rfl)) yb (zD va zp Q!))) (he:=(zF ..)))) (c1! 8 rn! (wT (aT (xw (jP! 6 (cR! 4 5))) (aT (xw (jP! 3 (aQ (eb! 0 4) (cy! 5)))) (aT (xw (jP! 3 (jP! 4 (cs! (eb! 0 5))))) zg)))) (zW 8 rn! (bA! (zc 8) (wT (aT (xw (jP! 3 (cR! 5 4))) (aT (xw (d8! (cR! 1 5))) (aT (xw (jP! 3 (cR! 1 5))) (aT (xw (aB (zD va zp bX!) (cR! 4 7))) zg))))))) (dd! (zW 8 rn! (bA! (zc 8) (wT (aQ (yk zbq (by rfl) T.f10 z0Z (cy! 2) (he:=(zr ..))) (aT (xw (jP! 3 (aQ (yk zbq (by rfl) T.f10 z0Z (cy! 4) (he:=(zr ..))) (cy! 5)))) (aS (yK aC! xD (xA zp)) (aB (bA! aC! (xw h2!)) (cs! hA!)))))))) (xB (zc 8) (jq! 0)))))) (by trivial)
instance zoy:f5! P w K mg dJ! "common" 5 Pg.z68:= mZ! (gY! 52) z2T (zh (ve (j3! bM!)) (kp! (jg (zW 1 z2T.nd zp)) (jg (z0K _I hc ju! (qL 2 z2T.nd) (zn (zW 1 z2T.nd (eb! 1 2))))) (zn (jg (zP K!))))) (by trivial)
instance zkA:ai! "has_ended" 5 Pg.xN:= b2! 53 zcc (have hu:=hr.units;(dd! (ve hA!) (qC ey! (zE wS (by rfl) T.f9 yV (cr! (aX! [hS!] [a!] (by exact hc) ju! (zK (i:=0) zs5 (by rfl) (by first | exact bb! | exact bm!)) (zG 0 (by rfl)) (wR (ef! Q! zp)) Q!)) (he:=(zF ..))) zp))) (by trivial)
instance zjj:ai! "multiplied" 5 Pg.vz:= b2! 54 zaC (have hu:=hr.units;(kp! (ve hA!) (ve (kl! b4!)) (dd! (hJ! (ef! (zE wS (by rfl) T.f9 yV bM! (he:=(zr ..))) (zE wS (by rfl) T.f9 yV b4! (he:=(zr ..)))) z6u) (r_k hr (cs! (yk yM (by rfl) T.f17 zS (cr! (aX! ["one",lR!] (F! 0) (by exact hc) (wj (kl! b4!)) (zK (i:=1) ztm (by rfl) (by first | exact bb! | exact bm!)) (zG 1 (by rfl)) yb (eb! 0 1))) (he:=(zF ..)))) (he:=(xu ..)))))) (by trivial)
instance zjb:f5! P w K mg dJ! "one_number" 6 Pg.z17:= qH (gY! 55) zaE (λhr _=> (zh (ve (j3! bM!)) (zn (jg (zP hA!))))) (by trivial)
instance zaR:f5! P w K mg dJ! "want_rule_and_lot" 5 Pg.zA:= qH (gY! 56) qG (λhr _=> (zh (ve (j3! bM!)) (zn (ve (j3! b4!))))) (by trivial)
instance zcP:ai! "want_rule_and_lot" 5 Pg.yc:= gl! 56 qG (zh (ve hA!) (zn (ve (kl! b4!)))) (by trivial)
instance zh9:f5! P w K mg dJ! nf! 5 Pg.wD:= mZ! (gY! 57) z2N (have hu:=hr.units;(zh (ve (j3! bM!)) (kp! (jg (iC! (lf! (eC! (hc! (by decide) zS (by rfl) (by rfl) nA! K!)) (z5A (ef! (zE wS (by rfl) T.f9 yV b4! (he:=(zr ..))) zp))) z6a)) (z9G K! (zqD 2 3 4 hc z2N.nd)) (dd! (hJ! (lf! (eC! (o1! zbH (cy! 2))) (zcU (zZ zsB aC! zp) (z5A (eC! (o1! zbH (jP! 3 (cs! (zE wS (by rfl) T.f9 yV bM! (he:=(zr ..)))))))))) (jg (zP z6a))) (z5J (qC ey! (yk yM (by rfl) T.f17 zS (cr! (aX! [in!,rk!] (F! 2) (by exact hc) (wj bX!) (zK (i:=1) ztA (by rfl) (by first | exact bb! | exact bm!)) (zG 1 (by rfl)) yb (zD va Q! K!))) (he:=(zF ..))) Q!) (z7i (o1! zbH (aN Q! (cR! 4 2))))))))) (by trivial)
instance zgs:f5! P w K mg dJ! "turned_back" 7 Pg.qR:= mZ! (gY! 58) jU (have hu:=hr.units;(c1! 1 jU.nd (j3! bM!) (hJ! (RW.rt (w_and (ef! K! zp) (zhD (ef! K! kJ!)))) (z9D T.E_NotFair z5W hc (by rfl))) (zh (jg (zW 2 jU.nd (z7y (by exact hc) (by rfl) T.f10 (by rfl) rU! (cs! (zE wS (by rfl) T.f9 yV bM! (he:=(zr ..))))))) (zn (jg (zP (yk yM (by rfl) T.f17 zS (cr! (aX! [lS!,oy!,eI!,cw!] (fv! 2 1 0) (by exact hc) (wj aC!) (zK (i:=3) zuv (by rfl) (by first | exact bb! | exact bm!)) (zG 3 (by rfl)) yb (yk yM (by rfl) T.f17 zS (cr! (aX! [oy!,cw!,eI!,lR!] (fv! 1 3 2) (by exact hc) ju! (zK (i:=3) ztS (by rfl) (by first | exact bb! | exact bm!)) (zG 3 (by rfl)) yb (zD va (zD va Q! (eb! 1 3)) (r_k hr (cs! (iw! 2 (cR! 3 1))) (he:=(xu ..)))))) (he:=(zF ..))))) (he:=(zF ..))))))))) (by trivial)
instance zbn:f5! P w K mg dJ! "growing_products" 6 Pg.wm:= mZ! (gY! 59) vq (kp! (jg (zW 2 vq.nd (z8A (cs! hA!)))) (jg (z0K _I hc (wj K!) (qL 3 vq.nd) (zn (ve (z0n aC! (r_k hr (aS (hH! kJ!) (cy! 3)) (he:=(uY ..)))))))) (zn (jg (zP aC!)))) (by trivial)
instance zlq:ai! "want_step" 6 Pg.wH:= gl! 60 zco (zh (ve (eb! 0 1)) (zn (hJ! (vH (kl! b4!)) z6u))) (by trivial)
instance zsk:ai! "step" 7 Pg.M_step:= b2! 61 zde (kp! (ve (eb! 0 1)) (z9G (eb! 0 1) (z2Y 2 3 hc zde.nd)) (dd! (zW 4 zde.nd (yk yM (by rfl) T.f17 zS (cr! (aX! [aj!,ho!,hS!,rk!] (fp! 1 2 a!) (by exact hc) (mX! (by rfl) (cR! 1 3)) (xK 2 3 (by exact hc) zuR) (xF 2 3 (by decide) (by rfl) (by rfl)) yb (zD z8s aC! (zD va bX! (xB Q! K!))))) (he:=(zF ..)))) (eb! 0 4))) (by trivial)
instance zjf:ai! "step_table" 7 Pg.vA:= b2! 62 z3c (zh (ve (eb! 0 1)) (dd! (z9G (eb! 0 1) (z2Y 2 3 hc z3c.nd)) (yk yM (by rfl) T.f17 zS (cr! (aX! [cx!,ho!,cw!,rk!] (fp! 0 2 a!) (by exact hc) (mX! (by rfl) (aQ (r_k hr (cs! (zE wS (by rfl) T.f9 yV b4! (he:=(zr ..)))) (he:=(xu ..))) (cy! 3))) (xK 2 3 (by exact hc) ztT) (xF 2 3 (by decide) (by rfl) (by rfl)) yb (iw! 0 (aB (bA! (bA! (yK aC! xD (xA K!)) (xw (aB (bA! (hH! K!) bX!) zg))) (yK aC! (xA (j6! K!)) xD)) zg)))) (he:=(zF ..))))) (by trivial)
instance zsg:f5! P w K mg dJ! "run" 8 Pg.X_run:= qH (gY! 63) zlB (λhr _=> (zh (ve (j3! (cR! 0 1))) (kp! (jg (zW 2 zlB.nd (z8A b4!))) (jg (z70 _I (eC! (r_k hr (aS (hH! kJ!) zg) (he:=(uY ..)))) (zn (ve (z0n aC! (iw! 0 (aS (hH! kJ!) zg))))))) (zn (jg (zP aC!)))))) (by trivial)
instance zjs:f5! P w K mg dJ! "tables_of" 9 Pg.xQ:= mZ! (gY! 64) zaZ (c8! (zfj [cx!,"ahead"] (F! 0) (by exact hc) (wj (yK (ziK (j3! (cR! 0 1))) xD (xA kJ!))) (fH! (zK (i:=1) zv3 (by rfl) (by first | exact bb! | exact bm!))) (zG 1 (by rfl)) (fH! yb) (fH! (o1! zbH (cR! 0 1))))) (by trivial)
instance zgo:f5! P w K mg dJ! "products_of" 10 Pg.yX:= qH (gY! 65) z2l (λhr _=> (dd! (zW 2 z2l.nd (ziK (j3! (cR! 0 1)))) (z6b hr z1M (aQ (zE wS (by rfl) T.f9 yV b4! (he:=(zr ..))) (cy! 2)) (he:=(xu ..))))) (by trivial)
instance zgk:f5! P w K mg dJ! "whole_table" 11 Pg.xo:= qH (gY! 66) z8x (λhr _=> (c8! (xB (ziK (j3! (cR! 0 1))) kJ!))) (by trivial)
instance zhe:f5! P w K mg dJ! "lines_back" 12 Pg.xi:= qH (gY! 67) zap (λhr _=> (c8! (z6b hr z1M (cs! (j3! (cR! 0 1))) (he:=(xu ..))))) (by trivial)
instance zmi:f5! P w K mg dJ! "weights" 13 Pg.qk:= mZ! (gY! 68) zg3 (have hu:=hr.units;(c8! (xB (aX! [aj!,cw!] (F! 1) (by exact hc) (wj (j3! (cR! 0 1))) (zK (i:=1) zsA (by rfl) (by first | exact bb! | exact bm!)) (zG 1 (by rfl)) (wR (ef! (o1! zbH (cR! 1 0)) zp)) K!) zp))) (by trivial)
instance zlL:f5! P w K mg dJ! ng! 14 Pg.ug:= mZ! (gY! 69) z3N (c1! 2 z3N.nd (j3! (cR! 0 1)) (zW 3 z3N.nd (j3! b4!)) (zn (jg (zP (xw (jP! 3 (aQ (yk yM (by rfl) T.f17 zS (cr! (aX! [in!,hS!] (F! 3) (by exact hc) (wj K!) (zK (i:=1) zto (by rfl) (by first | exact bb! | exact bm!)) (zG 1 (by rfl)) yb (zD zc7 K! Q!))) (he:=(zF ..))) (cy! 2)))))))) (by trivial)
instance zku:ai! "_law_told" 15 zT:= gl! 70 z4O (zn (zu1 rfl rfl rfl T.KS (by rfl) z4O.nd (by rfl) (by rfl) (λpn xe E1 hp=>(c8! (zp7 (n:=14) (kM (rl! (hr.hasX ng!) (by decide)) (kM (rl! (hr.hasX nf!) (by decide)) zeg)) (hr.mono (by decide)) hp (xB (wT (jz (zrw (hr.hasX ng!) (by rfl)) (jz (zrw (hr.hasX nf!) (by rfl)) zg (zr ..)) (zr ..))) Q!) (cR! 1 2) (he:=(zr ..))))) (λe pn=>(c8! (zoK (hr.hasH "_law_kind_of") (zuu (hr.r.h.mono (by decide))) zkE (by rfl) (cy! 3) (he:=(zr ..))))))) (by trivial)
theorem zfo{f:Addr} {fd:FuncData} (F:Fun K "law" "law" z8M f fd):za7 P w K mg R! CX0 16 f fd [lU!] (zjT ⟨mg,K⟩ zor):= zqe F z3j rfl λaj A outer s H E hr hc=>by
  have hr:Rm P w K mg R! 15 _:=⟨hr⟩;have hu:=hr.units;refine zh ?_ ?_
  ·refine z0K _I hc (hx! (by rfl) (cs! (zE (zs3 (by exact hc)) (by rfl) T.f11 z2W (d8! (cs! (zE (zqW (by exact hc)) (by rfl) T.f12 zif (aQ (zE wS (by rfl) T.f9 yV bM! (he:=(zr ..))) h2!) (he:=(xu ..))))) (he:=(z9r ..))))) (qL 1 oH!) ?_;refine zh ?_ ?_;·exact (zW 2 oH! (r_k hr (cs! (eb! 0 1)) (he:=(xu ..))))
   refine zh ?_ ?_;·exact (zW 3 oH! (iw! 2 zg))
   refine zh ?_ ?_;·exact (zW 4 oH! (xB (znF (hr.has "_law_rules") (hr.mono (by decide)) zkE (by rfl)) (jq! 2)))
   refine zh ?_ ?_;·exact (zW 5 oH! (iw! 3 zg))
   refine zh ?_ ?_;·exact (zW 6 oH! (xw (jP! 5 (aQ (yk yM (by rfl) T.f17 zS (cr! (aX! [oG!,b8!] (F! 5) (by exact hc) (wj bX!) (zK (i:=1) zwI (by rfl) (by first | exact bb! | exact bm!)) (zG 1 (by rfl)) yb (zD zc7 K! Q!))) (he:=(zF ..))) (aS (xB (eb! 4 3) zp) zg)))))
   refine zh ?_ ?_
   ·refine kS (lf! (eC! (r_k hr (aQ (kl! (d8! (cR! 4 3))) (cy! 6)) (he:=(xu ..)))) (z5A (eC! (r_k hr (aQ (kl! (d8! (cR! 4 3))) (cy! 6)) (he:=(xu ..)))))) ?_ ?_
    ·refine zn ?_;exact (zP z6a)
    ·exact yz
   refine zh ?_ ?_
   ·refine z0K _I hc (wj (bA! (wT (cy! 6)) (aX! [dy!,bP!,kZ!,"_law_turn"] (fv! 2 3 6) (by exact hc) (hx! (by rfl) h2!) (zK (i:=3) zw0 (by rfl) (by first | exact bb! | exact bm!)) (zG 3 (by rfl)) yb (iw! 0 (cR! 1 2))))) (qL 7 oH!) ?_;refine zn ?_;refine kS (eC! (r_k hr (aQ (kl! (d8! (cR! 3 7))) (cs! (eb! 3 7))) (he:=(xu ..)))) ?_ ?_
    ·refine zn ?_;exact (zP z6a)
    ·exact yz
   refine zh ?_ ?_;·exact (zW 8 oH! (eb! 2 3))
   refine zh ?_ ?_
   ·refine kS (RW.rt (w_and (eC! (iw! 8 zg)) (zhD (ef! (wT (aQ (kl! (d8! (cR! 4 8))) (cs! (kl! (d8! (cR! 8 6)))))) (zD zuk (wT (aK xU zg)) zp))))) ?_ ?_
    ·refine zn ?_;exact (zP z6a)
    ·exact yz
   refine zn ?_;refine kS (ef! (kl! (d8! (aQ (eb! 2 4) (aS (xB (wT (cR! 3 8)) (jq! 2)) zg)))) xU) ?_ ?_
   ·refine zn ?_;exact (zP z6a)
   ·exact yz
  refine zn ?_;exact (zP z6a)
end
end aW
namespace Po
open L2 Dd Pm Pg Pn
theorem zqx:LeM zjy X_run:=mz! (LeS.seq (ru! zfq) (rs! jO! jO! jO!))
theorem zfp:LeM wn wm:=mz! (rs! jO! jO! jO!)
theorem zhm:∀ts:List Tb,dj! (ts.map tD)
 | []=>rfl | T::ts=>by simp only[_u,flC,flN,zhm ts,Bool.and_true];exact z9m T
section
variable {n m:Nat}{r:Rl}{v:h!}{ls:fr!}{d e:D}{c:Str}{s:Sto}
theorem x_run(r:Rl)(h:fy!)(Rn:gk! v)(hm:m<=hV!)(hl:pc!)(s:Sto):X_run [by!,O!] s=gE! (s++[cS!]):=zqx.ok (zsT r h Rn hm hl s)
theorem zkx(h:zA [d,e] s=dW!):X_run [d,e] s=dW!:=by
 simp only[X_run,kU,zhX,st,_d,_k,_v];rw[zi3 (c:=c) (s':=s) (by exact zdx (z65 (x:=d) (y:=e) p! p! h))]
theorem zjV(r:Rl) (h:fy!) (Rn:gk! v) (hm:m<=hV!) (hl:pc!) (s:Sto):xQ [by!,O!] s=gE! (s++[fu!]):=by
 have key:hU! (d=by!->X_run [d,e] s=gE! (s++[cS!])->xQ [d,e] s=gE! (s++[fu!])):=rh! (by
  have st:zv do! [d,e]=hB!:=rfl;obtain⟨z,hz⟩:∃z,ls=ls.dropLast++[z]:=⟨ls.getLast Rn.ne,(List.dropLast_concat_getLast Rn.ne).symm⟩;have sl:eSl (z5w (cM! X_run)) zC (yx ea!) hB! s=bw! (ls.dropLast.map rD):=by
   rw[zaK,(show z5w (cM! X_run) hB! s=bw! cS! from by rw[z3M,call2 (x:=d) (y:=e) p! p!,he,zaI])];simp only[Rb,jo,z1i,zh2,qE,dSl,Dd.listOf];have c:=zkC (ls.dropLast.map rD) (rD z);rw[show ls.dropLast.map rD++[rD z]=cS! from by rw[show [rD z]=eP! [z] from rfl,<- _cu,<- hz]]at c;rw[c]
  have fQ:=zjd h Rn;have ht:ls.dropLast.map (λa=>tD (ky r a))=fu!:=by simp[zO,_N]
  have c:=z7T (s:=s) (mp:=F! 0) (fg:=yh 1) (fe:=cM! vA) rD (λa=>tD (ky r a)) (λa=>[i!,bv! a]) ls.dropLast (jy sl) (λa _=>by simp) (λa ha=>by
   rw[hd];exact (zcr r (fQ a ha).1 (fQ a ha).2 hm s)) (by simp[cap];lia) (by rw[ht];exact zhm _);simp only[xQ,kU,z0e,st,_d,_k,_v,jR,yf];rw[c,ht];rfl)
 exact key _ _ rfl (x_run r h Rn hm hl s)
theorem zd5(h:zA [d,e] s=dW!):xQ [d,e] s=dW!:=by
 have st:zv do! [d,e]=hB!:=rfl;simp only[xQ,kU,z0e,st,_d,_k,_v,jR,yf,zee,uH,jZ,zaK,(show z5w (cM! X_run) hB! s=dW! from by rw[z3M,z65 (x:=d) (y:=e) p! p! (zkx h)];rfl),R.bind_ex]
theorem zfv(r:Rl) (h:fy!) (Rn:gk! v) (hm:m<=hV!) (hl:pc!) (s:Sto):yX [by!,O!] s=gE! (s++[f6! (z4e bB! jT!)]):=by
 have gr:=zfp.ok (zhV r h Rn hm hl s);have key:∀d e t:D,wm [c! n,t] s=gE! (s++[f6! (z4e bB! jT!)])->z5w (cM! xQ) (fw! d e) s=k! t->yC [e] s=v! n->yX [d,e] s=gE! (s++[f6! (z4e bB! jT!)]):=λd e t ht h1 h2=>by
  have st:zv [cx!,aj!,nw!] [d,e]=fw! d e:=rfl;simp only[yX,kU,jr,st,_d,_k,_v];rw[zm (ρ':=[i!,l!,b! t]) (s':=s) (by rw[qA,zR,h1];rfl),z0J,yf,call2 (by exact h2) (y:=t) (by simp),ht];rfl
 exact key _ _ _ gr (by rw[z3M,call2 (x:=by!) (y:=O!) p! p!,(zjV r h Rn hm hl s),zaI]) (by simp[yC,zY,h.len])
theorem za8(h:zA [d,e] s=dW!):yX [d,e] s=dW!:=by
 have st:zv [cx!,aj!,nw!] [d,e]=fw! d e:=rfl;simp only[yX,kU,jr,st,_d,_k,_v]
 rw[zi3 (c:=c) (s':=s) (by rw[qA,zR,(show z5w (cM! xQ) (fw! d e) s=dW! from by rw[z3M,z65 (x:=d) (y:=e) p! p! (zd5 h)];rfl)];rfl)]
theorem zp1(r:Rl) (h:fy!) (Rn:gk! v) (hm:m<=hV!) (hl:pc!) (s:Sto):xo [by!,O!] s=he! hN!:=by
 obtain⟨pre,hp⟩:=List.getLast?_eq_some_iff.mp (z8Z jT! bB!);exact (λd e h1=>by
  have st:zv do! [d,e]=hB!:=rfl;have ix:=z7N (x:=X! (f6! (z4e bB! jT!))) (d:=tD hN!) (xs:=pre.map tD) (s:=s) (by rw[hp];simp[zY,z0f]);simp only[xo,kU,jc,st,_d,_k,_v,qu,yf];rw[op2 (by rw[z3M,call2 (x:=d) (y:=e) (by simp) (by simp),h1,zaI]) (y:=c! (-1)) (by simp),ix];rfl:hU! (yX [d,e] s=gE! (s++[f6! (z4e bB! jT!)])->xo [d,e] s=he! hN!)) _ _ (zfv r h Rn hm hl s)
theorem zg8(h:zA [d,e] s=dW!):xo [d,e] s=dW!:=by
 have st:zv do! [d,e]=hB!:=rfl;simp only[xo,kU,jc,st,_d,_k,_v,qu,yf,yO,(show z5w (cM! yX) hB! s=dW! from by rw[z3M,z65 (x:=d) (y:=e) p! p! (za8 h)];rfl),R.bind_ex]
end
theorem zkN:jX=wK:=rfl
theorem zeT{n:Nat} (hn:n<=4) (s:Sto):xC [c! n] s=he! bB!:=by
 exact (il! (by
  have st:zv [f0!] [d]=cX!:=rfl;have outer:=comp_map (s:=s) (fi:=eA! 0) (mp:=F! 0) (fg:=yh 1) (fe:=dr! (eA! 0) (F! 1) 1 (aM! ze9 (dz! dEq 0 r!))) (ρ:=cX!) (λi:Nat=>aP! (j! i)) (λi=>rD (aT! n (λj=>ak! i j 1 0))) (λi=>[i!,e! (j! i)]) i3! (qZ (by lia) (by simp[hd])) (λa _=>by simp) (λi _=>by
    rw[yF ((λi=> comp_map (λj:Nat=>aP! (j! j)) (λj=>aP! (ak! i j 1 0)) (λj=>[e! (aa! i),e! (j! j)]) i3! (qZ (by lia) (by simp[hd])) (λa _=>by simp) (λj _=>by
    rw[yF (x:=.bl (jb! i j)) (by
     rw[yO,vr (d:=c! (aa! i)) rfl,Rb,vr (d:=c! (aa! j)) rfl,Rb,zbK];congr 2;exact decide_eq_decide.mpr (by lia))];by_cases q:i=j<;>simp[q,ze9]) (by simp[cap];lia):∀i:Nat,zt (eA! 0) (F! 1) (yh 1) zU (aM! ze9 (dz! dEq 0 r!)) [i!,e! (aa! i)] s=bw! (aT! n (λj=>aP! (ak! i j 1 0)))) i),z2a];simp[_ag,_N]) (by simp[cap];lia);rw[(show aT! n (λi=>rD (aT! n (λj=>ak! i j (j! 1) 0)))=eP! bB! from by rw[one,_ag];rfl)]at outer;simp only[xC,Mof,z3h,st,_d,_k,_v,z1O,yf];rw[yF au!];rfl):∀d:D,d=c! (j! n)->xC [d] s=he! bB!) _ rfl
end Po
namespace Pb
open Pm
noncomputable def z1l(q:Int)(h r:h!):h!:=oC! (λm o=>o-q*m) h r
theorem z63{q:Int}{h r:h!}(e:h.length=aK!):t! (z1l q h r)=aK!:=by simp[z1l,e]
theorem z3H{q:Int}:∀{h r:List Int},h.length=aK!->∀j:Nat,bg! (z1l q h r) j=cT! j-q*h.getD j 0
 | [],[],_,j=>by simp[z1l] | a::h,b::r,e,0=>by simp[z1l] | a::h,b::r,e,j+1=>by
  have:=z3H (q:=q) (h:=h) (r:=r) (by simpa using e) j;simpa[z1l] using this
theorem z7l(q:Int)(h r:h!)(n:Nat):(z1l q h r).take n=z1l q (h.take n) qb!:=by simp[z1l,List.take_zipWith]
theorem zch(q:Int)(h r:h!)(n:Nat):(z1l q h r).drop n=z1l q (h.drop n) mU!:=by simp[z1l,List.drop_zipWith]
theorem zf6{q:Int}:∀(c:List Int) {h r:List Int},h.length=aK!->dot c (z1l q h r)=dot c r-q*dot c h
 | [],h,r,_=>by simp[dot] | x::c,[],[],_=>by simp[dot,z1l] | x::c,a::h,b::r,e=>by
  have:=zf6 (q:=q) c (h:=h) (r:=r) (by simpa using e);simp only[dot,z1l,_a1,_aN]at this ⊢;rw[this];grind
theorem zcZ{q:Int}{h r:h!}(e:h.length=aK!):∀C:Tb,mv C (z1l q h r)=z1l q (mv C h) (mv C r)
 | []=>by simp[mv,z1l] | c::C=>by
  have:=zcZ (q:=q) e C;simp only[mv,z1l,_u,_a1]at this ⊢;rw[<- this];have:=zf6 (q:=q) c e;simp only[z1l]at this;rw[this]
theorem zpi{a b c d e f g h X Yy Z W q u v:Int}(e1:(a-q*e)*X-(b-q*f)*Yy+(c-q*g)*Z-(d-q*h)*W=u)(e2:a*X-b*Yy+c*Z-d*W=v)(e3:e*X-f*Yy+g*Z-h*W=0):u=v:=by grind
theorem zpd{a b c d e f g h X Yy Z W q u v:Int}(e1:-(a-q*e)*X+(b-q*f)*Yy-(c-q*g)*Z+(d-q*h)*W=u)(e2:-a*X+b*Yy-c*Z+d*W=v)(e3:-e*X+f*Yy-g*Z+h*W=0):u=v:=by grind
theorem zmZ{n h k:Nat}{A:Tb}(hn:be!)(hA:id!)(hh:h<n)(hk:k<n)(ne:h≠k)(q:Int):eV! (A.set k (z1l q (m2! h) (m2! k)))=eV! A:=by
 rcases hn with rfl | rfl | rfl
 ·obtain⟨a,b,c,d,rfl⟩:=zea hA;rcases (show h=0\/h=1 by lia) with rfl | rfl<;>rcases (show k=0\/k=1 by lia) with rfl | rfl<;>first | exact fn! ne | (simp[z1l,zb2,d2];grind)
 ·obtain⟨a,b,c,d,e,f,g,i,j,rfl⟩:=zeH hA;rcases (show h=0\/h=1\/h=2 by lia) with rfl | rfl | rfl<;>rcases (show k=0\/k=1\/k=2 by lia) with rfl | rfl | rfl<;>first | exact fn! ne | (simp[z1l,z8P,d3,d2];grind)
 ·obtain⟨a,b,c,d,e,f,g,h',i,j,l,m,n,o,p,r,rfl⟩:=zep hA;rcases (show h=0\/h=1\/h=2\/h=3 by lia) with rfl | rfl | rfl | rfl<;>rcases (show k=0\/k=1\/k=2\/k=3 by lia) with rfl | rfl | rfl | rfl;·exact fn! ne
  ·exact g3! (kT 0 a b c d (e-q*a) (f-q*b) (g-q*c) (h'-q*d) i j l m n o p r) (zpd (ze1 a b c d (e-q*a) (f-q*b) (g-q*c) (h'-q*d) i j l m n o p r) (ze1 a b c d e f g h' i j l m n o p r) (zrG a b c d e f g h' i j l m n o p r)) (kT 0 a b c d e f g h' i j l m n o p r).symm
  ·exact g3! (kT 0 a b c d e f g h' (i-q*a) (j-q*b) (l-q*c) (m-q*d) n o p r) (zpi (zd2 a b c d e f g h' (i-q*a) (j-q*b) (l-q*c) (m-q*d) n o p r) (zd2 a b c d e f g h' i j l m n o p r) (zq0 a b c d e f g h' i j l m n o p r)) (kT 0 a b c d e f g h' i j l m n o p r).symm
  ·exact g3! (kT 0 a b c d e f g h' i j l m (n-q*a) (o-q*b) (p-q*c) (r-q*d)) (zpd (zdu a b c d e f g h' i j l m (n-q*a) (o-q*b) (p-q*c) (r-q*d)) (zdu a b c d e f g h' i j l m n o p r) (zpx a b c d e f g h' i j l m n o p r)) (kT 0 a b c d e f g h' i j l m n o p r).symm
  ·exact g3! (kT 0 (a-q*e) (b-q*f) (c-q*g) (d-q*h') e f g h' i j l m n o p r) (zpi (ze3 (a-q*e) (b-q*f) (c-q*g) (d-q*h') e f g h' i j l m n o p r) (ze3 a b c d e f g h' i j l m n o p r) (zqu a b c d e f g h' i j l m n o p r)) (kT 0 a b c d e f g h' i j l m n o p r).symm
  ·exact fn! ne
  ·exact g3! (kT 0 a b c d e f g h' (i-q*e) (j-q*f) (l-q*g) (m-q*h') n o p r) (zpi (zd2 a b c d e f g h' (i-q*e) (j-q*f) (l-q*g) (m-q*h') n o p r) (zd2 a b c d e f g h' i j l m n o p r) (zrr a b c d e f g h' i j l m n o p r)) (kT 0 a b c d e f g h' i j l m n o p r).symm
  ·exact g3! (kT 0 a b c d e f g h' i j l m (n-q*e) (o-q*f) (p-q*g) (r-q*h')) (zpd (zdu a b c d e f g h' i j l m (n-q*e) (o-q*f) (p-q*g) (r-q*h')) (zdu a b c d e f g h' i j l m n o p r) (zqz a b c d e f g h' i j l m n o p r)) (kT 0 a b c d e f g h' i j l m n o p r).symm
  ·exact g3! (kT 0 (a-q*i) (b-q*j) (c-q*l) (d-q*m) e f g h' i j l m n o p r) (zpi (ze3 (a-q*i) (b-q*j) (c-q*l) (d-q*m) e f g h' i j l m n o p r) (ze3 a b c d e f g h' i j l m n o p r) (zr3 a b c d e f g h' i j l m n o p r)) (kT 0 a b c d e f g h' i j l m n o p r).symm
  ·exact g3! (kT 0 a b c d (e-q*i) (f-q*j) (g-q*l) (h'-q*m) i j l m n o p r) (zpd (ze1 a b c d (e-q*i) (f-q*j) (g-q*l) (h'-q*m) i j l m n o p r) (ze1 a b c d e f g h' i j l m n o p r) (zpF a b c d e f g h' i j l m n o p r)) (kT 0 a b c d e f g h' i j l m n o p r).symm
  ·exact fn! ne
  ·exact g3! (kT 0 a b c d e f g h' i j l m (n-q*i) (o-q*j) (p-q*l) (r-q*m)) (zpd (zdu a b c d e f g h' i j l m (n-q*i) (o-q*j) (p-q*l) (r-q*m)) (zdu a b c d e f g h' i j l m n o p r) (zrK a b c d e f g h' i j l m n o p r)) (kT 0 a b c d e f g h' i j l m n o p r).symm
  ·exact g3! (kT 0 (a-q*n) (b-q*o) (c-q*p) (d-q*r) e f g h' i j l m n o p r) (zpi (ze3 (a-q*n) (b-q*o) (c-q*p) (d-q*r) e f g h' i j l m n o p r) (ze3 a b c d e f g h' i j l m n o p r) (zrQ a b c d e f g h' i j l m n o p r)) (kT 0 a b c d e f g h' i j l m n o p r).symm
  ·exact g3! (kT 0 a b c d (e-q*n) (f-q*o) (g-q*p) (h'-q*r) i j l m n o p r) (zpd (ze1 a b c d (e-q*n) (f-q*o) (g-q*p) (h'-q*r) i j l m n o p r) (ze1 a b c d e f g h' i j l m n o p r) (zpZ a b c d e f g h' i j l m n o p r)) (kT 0 a b c d e f g h' i j l m n o p r).symm
  ·exact g3! (kT 0 a b c d e f g h' (i-q*n) (j-q*o) (l-q*p) (m-q*r) n o p r) (zpi (zd2 a b c d e f g h' (i-q*n) (j-q*o) (l-q*p) (m-q*r) n o p r) (zd2 a b c d e f g h' i j l m n o p r) (zpI a b c d e f g h' i j l m n o p r)) (kT 0 a b c d e f g h' i j l m n o p r).symm
  ·exact fn! ne
theorem zjY{n f k:Nat}{A:Tb}(hn:be!)(hA:id!)(hf:f<n)(hk:k<n):jV! 4 ((A.set f (m2! k)).set k (m2! f))=jV! 4 A:=by
 have key:eV! ((A.set f (m2! k)).set k (m2! f))=eV! A\/eV! ((A.set f (m2! k)).set k (m2! f))=-(eV! A):=by
  rcases hn with rfl | rfl | rfl
  ·obtain⟨a,b,c,d,rfl⟩:=zea hA;rcases (show f=0\/f=1 by lia) with rfl | rfl<;>rcases (show k=0\/k=1 by lia) with rfl | rfl<;>first | exact c7! | (right;simp[zb2,d2];grind)
  ·obtain⟨a,b,c,d,e,f,g,i,j,rfl⟩:=zeH hA;rename_i f';rcases (show f'=0\/f'=1\/f'=2 by lia) with rfl | rfl | rfl<;>rcases (show k=0\/k=1\/k=2 by lia) with rfl | rfl | rfl<;>first | exact c7! | (right;simp[z8P,d3,d2];grind)
  ·obtain⟨a,b,c,d,e,f,g,i,j,k',l,m,n',o,p,q',rfl⟩:=zep hA;rename_i f';rcases (show f'=0\/f'=1\/f'=2\/f'=3 by lia) with rfl | rfl | rfl | rfl<;>rcases (show k=0\/k=1\/k=2\/k=3 by lia) with rfl | rfl | rfl | rfl<;>first | exact c7! | (right;simp[kT,d4,d3,d2];grind)
 rcases key with e | e<;>rw[e];exact Int.natAbs_neg _
theorem qY{a b:Int}(h:aZ! (a*b)=1):or!=1/\b.natAbs=1:=by
 rw[_aD]at h;exact⟨Nat.eq_one_of_mul_eq_one_right h,Nat.eq_one_of_mul_eq_one_left h⟩
theorem zwn{a b c d e f g i j k l m n o p q:Int}(z1:e=0)(z2:j=0)(z3:k=0)(z4:n=0)(z5:o=0)(z6:p=0)(h:jV! 4 [[a,b,c,d],[e,f,g,i],[j,k,l,m],[n,o,p,q]]=1):or!=1/\f.natAbs=1/\l.natAbs=1/\q.natAbs=1:=by
 subst z1 z2 z3 z4 z5 z6;rw[kT,show d4 a b c d 0 f g i 0 0 l m 0 0 0 q=a*(f*(l*q)) by simp[d4,d3,d2]]at h;obtain⟨h1,h⟩:=qY h;obtain⟨h2,h⟩:=qY h;exact⟨h1,h2,qY h⟩
theorem zwt{a b c d e f g i j:Int}(z1:d=0)(z2:g=0)(z3:i=0)(h:jV! 4 [[a,b,c],[d,e,f],[g,i,j]]=1):or!=1/\e.natAbs=1/\ke!=1:=by
 subst z1 z2 z3;rw[z8P,show aS! 0 e f 0 0 j=a*(e*j) by simp[d3,d2]]at h;obtain⟨h1,h⟩:=qY h;exact⟨h1,qY h⟩
theorem zw7{a b c d:Int}(z1:c=0)(h:jV! 4 [[a,b],[c,d]]=1):or!=1/\d.natAbs=1:=by
 subst z1;rw[zb2,show d2 a b 0 d=a*d by simp[d2]]at h;exact qY h
theorem zp4{n:Nat}{A:Tb}(hn:be!)(hA:id!)(z:∀c k,c<k->k<n->bg! (m2! k) c=0)(h:jV! 4 A=1):∀k,k<n->aZ! (bg! (m2! k) k)=1:=by
 rcases hn with rfl | rfl | rfl
 ·obtain⟨a,b,c,d,rfl⟩:=zea hA;have h:=zw7 (z 0 1 (by decide) (by decide)) h;exact λ| 0,_=>h.1 | 1,_=>h.2 | k+2,hk=>bO! hk (by lia)
 ·obtain⟨a,b,c,d,e,f,g,i,j,rfl⟩:=zeH hA;have h:=zwt (z 0 1 (by decide) (by decide)) (z 0 2 (by decide) (by decide)) (z 1 2 (by decide) (by decide)) h;exact λ| 0,_=>h.1 | 1,_=>h.2.1 | 2,_=>h.2.2 | k+3,hk=>bO! hk (by lia)
 ·obtain⟨a,b,c,d,e,f,g,i,j,k',l,m,n',o,p,q',rfl⟩:=zep hA;have h:=zwn (z 0 1 (by decide) (by decide)) (z 0 2 (by decide) (by decide)) (z 1 2 (by decide) (by decide)) (z 0 3 (by decide) (by decide)) (z 1 3 (by decide) (by decide)) (z 2 3 (by decide) (by decide)) h;exact λ| 0,_=>h.1 | 1,_=>h.2.1 | 2,_=>h.2.2.1 | 3,_=>h.2.2.2 | k+4,hk=>bO! hk (by lia)
structure Gd(n:Nat)(T L:Tb):g! where
 len:aE!=n
 row:∀r∈L,aK!=n+n
 lk:∀r∈L,qb!=mv (yi T) mU!
 dt:jV! 4 (ow! rA!)=1
noncomputable def at2(L:Tb)(k j:Nat):Int:=bg! dX! j
section
variable {n:Nat}{T L:Tb}
theorem getD_mem{L:Tb}{k:Nat}(h:k<aE!):dX!∈L:=by
 rw[_n,_b h];exact _J h
theorem uW(L:Tb)(i k:Nat)(r:h!)(hi:i<aE!):ia! (ki! i r) k=ak! i k r dX!:=by
 simp only[_n,List.getElem?_set];split;·rename_i e;subst e;simp[hi]
 ·rfl
theorem Gd.tab(g:Gd n T L):e8! (ow! rA!):=⟨by simp[g.len],dh! (by
 obtain⟨x,hx,rfl⟩:=jX!;simp[oI! x hx])⟩
theorem Gd.rl(g:Gd n T L){k:Nat}(hk:k<n):t! dX!=n+n:=oI! _ (hq! (by rw[g.len];exact hk))
theorem getD_map(L:Tb)(k n:Nat):ia! (ow! rA!) k=(dX!).take n:=by
 simp only[_n,_D];cases L[k]? <;> simp
theorem Gd.sub(g:Gd n T L)(hn:be!){h k:Nat}(hh:h<n)(hk:k<n)(ne:h≠k)(q:Int):Gd n T (ki! k (z1l q (cE! h) dX!)):=by
 have lh:=g.rl hh;have lV:=g.rl hk;have mh:=hq! (by rw[g.len];exact hh);have mk:=hq! (by rw[g.len];exact hk);refine⟨by simp[g.len],dh! ?_,dh! ?_,?_⟩
 ·rcases _A hr with h | rfl;·exact oI! r h
  ·rw[z63 (by lia)];exact lV
 ·rcases _A hr with h | rfl;·exact g.lk r h
  ·rw[z7l,zch,zcZ (by rw[_ay,_ay,lh,lV]),g.lk _ mh,g.lk _ mk]
 ·rw[_ba,z7l,<- getD_map,<- getD_map,zmZ hn g.tab hh hk ne];exact g.dt
theorem Gd.swap(g:Gd n T L)(hn:be!){f k:Nat}(hf:f<n)(hk:k<n):Gd n T ((ki! f dX!).set k (cE! f)):=by
 have mf:=hq! (by rw[g.len];exact hf);have mk:=hq! (by rw[g.len];exact hk);have all:∀r∈(ki! f dX!).set k (cE! f),r∈L:=dh! (by
  rcases _A hr with h | rfl
  ·rcases _A h with h | rfl;·exact h
   ·exact mk
  ·exact mf)
 refine⟨by simp[g.len],dh! (oI! r (all r hr)),dh! (g.lk r (all r hr)),?_⟩;rw[_ba,_ba,<- getD_map,<- getD_map,zjY hn g.tab hf hk];exact g.dt
noncomputable def elim(a:Nat)(hd:h!):Nat->Tb->Tb
 | 0,L=>L | j+1,L=>let M:=elim a hd j L;M.set (a+1+j) (z1l ((at2 M (a+1+j) a).fdiv (jW! 0)) hd (M.getD (a+1+j) []))
theorem z35(a:Nat)(hd:h!):∀(j:Nat)(L:Tb),t! (elim a hd j L)=aE!
 | 0,L=>rfl | j+1,L=>by simp[elim,z35 a hd j L]
theorem z5S{a:Nat} {hd:h!} {L:Tb}:∀(j:Nat),a+1+j<=aE!->∀k,ia! (elim a hd j L) k=an! (a<k/\k<a+1+j) (z1l ((dt!).fdiv (jW! 0)) hd dX!) dX!
 | 0,_,k=>by rw[_o (by lia)];rfl | j+1,h,k=>by
  have ih:=z5S (a:=a) (hd:=hd) (L:=L) j (by lia);simp only[elim];rw[uW _ _ _ _ (by rw[z35];lia)];have e1:ia! (elim a hd j L) (a+1+j)=cE! (a+1+j):=by rw[ih,_o (by lia)]
  split
  ·rename_i e;subst e;rw[_g (by lia),at2,e1];rfl
  ·rename_i ne;rw[ih];by_cases hk:a<k/\k<a+1+j;·rw[_g hk,_g (by lia)]
   ·rw[_o hk,_o (by lia)]
theorem Gd.elim(hn:be!) {a:Nat} {hd:h!}:∀(j:Nat) {L:Tb},Gd n T L->a+1+j<=n->ej!=hd->Gd n T (Pb.elim a hd j L)
 | 0,L,g,_,_=>g | j+1,L,g,h,e=>by
  have ih:=Gd.elim hn j g (by lia) e;have e1:ia! (Pb.elim a hd j L) a=hd:=by rw[z5S j (by rw[g.len];lia),_o (by lia),e]
  have:=ih.sub hn (h:=a) (k:=a+1+j) (by lia) (by lia) (by lia) ((at2 (Pb.elim a hd j L) (a+1+j) a).fdiv (jW! 0));rw[e1]at this;exact this
noncomputable def pas(n a f:Nat)(L:Tb):Tb:=elim a (cE! f) (n-1-a) ((ki! f ej!).set a (cE! f))
theorem Gd.pas(g:Gd n T L)(hn:be!){a f:Nat}(ha:a<n)(hf:f<n):Gd n T (Pb.pas n a f L):= Gd.elim hn _ (g.swap hn hf ha) (by lia) (by rw[uW _ _ _ _ (by simp[g.len];exact ha),gD!])
theorem zny(g:Gd n T L){a f:Nat}(ha:a<n)(hf:f<n)(lX:a<=f)(k:Nat):ia! (pas n a f L) k= ak! k a (cE! f) (an! (a<k/\k<n) (let r:=ak! k f ej! dX!;z1l ((cT! a).fdiv (cd! f)) (cE! f) r) dX!):=by
 unfold pas;rw[z5S _ (by simp[g.len];lia)];have e:∀k,ia! ((ki! f ej!).set a (cE! f)) k=ak! k a (cE! f) (ak! k f ej! dX!):=λk=>by
  rw[uW _ _ _ _ (by simp[g.len];exact ha),uW _ _ _ _ (by rw[g.len];exact hf)];simp only[eq_comm (a:=a),eq_comm (a:=f)]
 by_cases hka:k=a
 ·subst hka;rw[_o (by lia),e,gD!,gD!]
 ·rw[_o hka];by_cases hk:a<k/\k<n
  ·rw[_g (by lia),_g hk];simp only[at2,e,_o hka]
  ·rw[_o (by lia),_o hk,e,_o hka];rw[_o (by lia)]
end
theorem ab1{r h:Int}(r0:0<=r)(r1:r<h):r.natAbs<io!:=by omega
theorem ab2{x r h:Int}(r0:0<=r)(r1:r<h):aZ! (x-r)<=iX!+io!:=by omega
theorem ab3{x r:Int}(r0:0<=r)(m:0<=x-r):aZ! (x-r)<=iX!:=by omega
theorem ab4{x r h:Int}(r0:0<=r)(hp:0<h)(m:h<=x-r):r.natAbs+io!<=iX!:=by omega
theorem ab5{x h:Int}(x0:0<=x)(hl:io!<=iX!):h<=x:=by omega
theorem zmj{x h:Int}(hp:0<h):aZ! (x-x / h*h)<io!/\0<=(x-x / h*h)*h/\aZ! (x / h)*io!<=iX!+io!/\(0<=x*h->aZ! (x / h)*io!<=iX!/\(io!<=iX!->aZ! (x-x / h*h)+io!<=iX!)):=by
 have h0:0<=h:=Int.le_of_lt hp;have e:x-x / h*h=x % h:=by rw[Int.emod_def,_cI]
 have r0:=_a8 x (Int.ne_of_gt hp);have r1:=_bm x hp;have m:x / h*h=x-x % h:=by rw[<- e,Int.sub_sub_self]
 rw[e,<- _aD,m];refine⟨ab1 r0 r1,_be r0 h0,ab2 r0 r1,λhx=>?_⟩;have x0:0<=x:=_cj.mp λz=>_cj.mpr hx (_a5 z hp);have m0:=_be (_bU x0 h0) h0;rw[m]at m0;refine⟨ab3 r0 m0,λhl=>?_⟩;have q1:=Int.ediv_le_ediv hp (ab5 x0 hl);rw[Int.ediv_self (Int.ne_of_gt hp)]at q1;have q2:=_ci q1 h0;rw[m,Int.one_mul]at q2;exact ab4 r0 hp q2
theorem fd{x h:Int}(hz:h≠0):aZ! (x-pa!*h)<io!/\0<=(x-pa!*h)*h/\aZ! pa!*io!<=iX!+io!/\(0<=x*h->aZ! pa!*io!<=iX!/\(io!<=iX!->aZ! (x-pa!*h)+io!<=iX!)):=by
 by_cases hp:0<h
 ·rw[_bA _ (by omega)];exact zmj hp
 ·have e:pa!=(-x) / (-h):=by rw[<- Int.neg_fdiv_neg,_bA _ (by omega)]
  obtain⟨h1,h2,h3,h4⟩:=zmj (h:=-h) (by omega);rw[<- e]at h1 h2 h3 h4;have e2:-x-pa!*-h=-(x-pa!*h):=by grind
  rw[e2]at h1 h2 h4;simp only[Int.natAbs_neg,Int.neg_mul_neg]at h1 h2 h3 h4;exact ck! h1 h2 h3 h4
section
variable {n a f:Nat}{T L:Tb}
structure Mn(n a f:Nat)(L:Tb):g! where
 le:a<=f
 lt:f<n
 nz:cd! f≠0
 mn:∀k,a<=k->k<n->dt!≠0->fC! f<=fC! k
theorem zcW(g:Gd n T L)(ha:a<n)(hf:f<n)(lX:a<=f)(k j:Nat):at2 (pas n a f L) k j= ak! k a (e6! f j) (an! (a<k/\k<n) (e6! (ak! k f a k) j-(cd! (ak! k f a k)).fdiv (cd! f)*e6! f j) (e6! k j)):=by
 unfold at2;rw[zny g ha hf lX];by_cases hka:k=a;·rw[_g hka,_g hka]
 ·rw[_o hka,_o hka];by_cases hk:a<k/\k<n
  ·rw[_g hk,_g hk];have lf:=g.rl hf;by_cases e:k=f
   ·simp only[_g e];rw[z3H (by rw[lf,g.rl ha])];rfl
   ·simp only[_o e];rw[z3H (by rw[lf,g.rl hk.2])];rfl
  ·rw[_o hk,_o hk]
def Zr(n a:Nat)(L:Tb):g!:=∀c,c<a->∀k,c<k->k<n->e6! k c=0
theorem Zr.pas(z:Zr n a L)(g:Gd n T L)(ha:a<n)(M:Mn n a f L):Zr n a (Pb.pas n a f L):=λc hc k hk hn=>by
 rw[zcW g ha lZ! M.le];have zf:=z c hc f (by have:=M.le;omega) lZ!;have za:=z c hc a (by omega) ha;have zk:=z c hc k hk hn;split;·exact zf
 ·split
  ·rw[zf];split;·rw[za];simp
   ·rw[zk];simp
  ·exact zk
structure S1(n a:Nat)(L:Tb)(H N:Nat):g! where
 hd:fC! a=H
 pos:0<H
 bel:∀k,a<k->k<n->fC! k<H/\0<=dt!*cd! a
 bd:∀k,k<n->∀j,dQ! L k j*H<N
theorem zm6{y q m:Int}{H X:Nat}(h:q.natAbs*H<=X):aZ! (y-q*m)*H<=q8!*H+X*m.natAbs:=by
 have h1:aZ! (y-q*m)<=q8!+q.natAbs*m.natAbs:=by rw[<- _aD];exact Int.natAbs_sub_le ..
 have h2:=_aE H h1;have h3:=_aE m.natAbs h;rw[_df]at h2;exact _G h2 (Nat.add_le_add_left (Nat.mul_right_comm .. ▸ h3) _)
theorem zd4(b:Nat):2 ^ b*2 ^ b*4=2 ^ (2*b+2):=by rw[_bZ,Nat.two_mul,_bZ]
theorem zfD{b:Nat} (g:Gd n T L) (ha:a<n) (M:Mn n a f L) (hb:∀k,k<n->∀j,dQ! L k j<2 ^ b):S1 n a (pas n a f L) (fC! f) (2 ^ (2*b+2)):=by
 have hf:=hb f lZ!;have pos:0<fC! f:=by have:=M.nz;omega
 have e:=zcW g ha lZ! M.le;refine⟨by rw[e,gD!],pos,nC! ?_,λk h2 j=>?_⟩
 ·have ea:at2 (pas n a f L) a a=cd! f:=by rw[e,gD!]
  rw[ea,e,_o (by omega),bS! h1 h2];obtain⟨r1,r2,_,_⟩:=fd M.nz;exact as! r1 r2
 ·rw[<- zd4];have hH:=hf a;rw[e];have pp:=_cB b;have bO:∀x y:Nat,x<2 ^ b->y<2 ^ b->x*y<2 ^ b*2 ^ b:=λx y hx hy=>_ch hx hy;split;·have:=bO _ _ (hf j) hH;omega
  ·split
   ·obtain⟨_,_,r3,_⟩:=fd (x:=cd! (ak! k f a k)) M.nz;have lY:(ak! k f a k)<n:=by split<;>omega
    have h5:=zm6 (y:=e6! (ak! k f a k) j) (m:=e6! f j) r3;have h6:=bO _ _ (hb _ lY j) hH;have h7:=bO _ _ (hb _ lY a) (hf j);have h8:=bO _ _ hH (hf j);rw[_df]at h5;omega
   ·have:=bO _ _ (hb k h2 j) hH;omega
theorem zb4{H N:Nat} (g:Gd n T L) (ha:a<n) (S:S1 n a L H N) (M:Mn n a f L) (hx:∃k,a<k/\k<n/\dt!≠0): S1 n a (pas n a f L) (fC! f) (2*N)/\fC! f<H/\∀k,a<k->k<n->2*dQ! (pas n a f L) k a<H:=by
 have pos:0<fC! f:=by have:=M.nz;omega
 have e:=zcW g ha lZ! M.le;have bv:fC! f<H:=by
  obtain⟨k,h1,h2,h3⟩:=hx;have:=M.mn k (by omega) h2 h3;have:=(S.bel k h1 h2).1;omega
 have fa:a<f:=by
  rcases _aS M.le with h | h;·exact h
  ·rw[<- h]at bv;have:=S.hd;omega
 have lZ:∀k,a<=k->k<n->0<=dt!*cd! f/\fC! k<=H:=nC! (by
  have s1:fC! k<=H/\0<=dt!*cd! a:=by
   rcases _aS h1 with h | h;·exact⟨_bg (S.bel k h h2).1,(S.bel k h h2).2⟩
   ·subst h;exact⟨by rw[S.hd];exact am!,by rw[<- Int.natAbs_mul_self];omega⟩
  have s2:=(S.bel f fa lZ!).2;refine as! ?_ s1.1;have hn:=S.hd;have hp:=S.pos;rcases Int.lt_or_gt_of_ne (show cd! a≠0 by omega) with q | q
  ·have x1:dt!<=0:=by
    apply _cj.mp;intro z;have:=Int.mul_neg_of_pos_of_neg z q;omega
   have x2:cd! f<=0:=by
    apply _cj.mp;intro z;have:=Int.mul_neg_of_pos_of_neg z q;omega
   exact _bW x1 x2
  ·have x1:0<=dt!:=by
    apply _cj.mp;intro z;have:=_a5 z q;omega
   have x2:0<=cd! f:=by
    apply _cj.mp;intro z;have:=_a5 z q;omega
   exact _be x1 x2)
 have src:∀k,a<k->k<n->a<=(ak! k f a k)/\(ak! k f a k)<n:=nC! (by split<;>omega)
 refine⟨⟨by rw[e,gD!],pos,nC! ?_,λk h2 j=>?_⟩,bv,nC! ?_⟩
 ·have ea:at2 (pas n a f L) a a=cd! f:=by rw[e,gD!]
  rw[ea,e,_o (by omega),bS! h1 h2];obtain⟨r1,r2,_,_⟩:=fd M.nz;exact as! r1 r2
 ·have iQ := λk hk=>_bj (Nat.mul_le_mul_left _ (_bg bv)) (S.bd k hk j);rw[e];split;·have:=iQ f lZ!;omega
  ·split
   ·rename_i hk;obtain⟨i1,i2⟩:=src k hk.1 hk.2;obtain⟨s1,s2⟩:=lZ _ i1 i2;obtain⟨_,_,_,r4⟩:=fd M.nz;have h5:=zm6 (y:=e6! (ak! k f a k) j) (m:=e6! f j) (_G (r4 s1).1 s2);have h6:=iQ _ i2;have h7:=S.bd f lZ! j;rw[_dO]at h7;omega
   ·have:=iQ k h2;omega
 ·rw[e,_o (by omega),bS! h1 h2];obtain⟨i1,i2⟩:=src k h1 h2;obtain⟨s1,s2⟩:=lZ _ i1 i2;obtain⟨r1,_,_,r4⟩:=fd M.nz;by_cases z:cd! (ak! k f a k)=0;·rw[z];simp;have:=S.pos;omega
  ·have:=(r4 s1).2 (M.mn _ i1 i2 z);omega
end
noncomputable def C8:Nat:=2 ^ 8000
noncomputable def C2:Nat:=2 ^ bK!
inductive Lr(f:Tb->Nat)(n a:Nat):Nat->Tb->Tb->g! | done {L:Tb}(h:∀k,a<k->k<n->dt!=0):Lr f n a 0 L L | step {m:Nat}{L L':Tb}(h:∃k,a<k/\k<n/\dt!≠0)(r:∀x∈L,x.length=n+n)(l:aE!=n)(M:Mn n a (f L) L)(b1:∀i,i<n->∀j,dQ! L i j<C8)(b2:∀i,a<=i->i<n->fC! i<C2)(q:Lr f n a m (pas n a (f L) L) L'):Lr f n a (m+1) L L'
section
variable {n a:Nat}{T:Tb}{f:Tb->Nat}
theorem Zr.up{L:Tb}(z:Zr n a L)(h:∀k,a<k->k<n->dt!=0):Zr n (a+1) L:=λc hc k hk hn=>by
 rcases _aS (Nat.le_of_lt_succ hc) with q | q;·exact z c q k hk hn
 ·subst q;exact h k hk hn
theorem zgU{L:Tb}:(∀k,a<k->k<n->dt!=0)\/∃k,a<k/\k<n/\dt!≠0:=by
 by_cases h:∃k,a<k/\k<n/\dt!≠0;·exact T! h
 ·exact C! (nC! (_Z λz=>h ⟨k,h1,h2,z⟩))
theorem S1.lt{L:Tb}{H N:Nat}(S:S1 n a L H N)(i:Nat)(hi:i<n)(j:Nat):dQ! L i j<N:=by
 have h1:=S.bd i hi j;have h2:=Nat.mul_le_mul_left (dQ! L i j) S.pos;lia
theorem S1.col{L:Tb}{H N k:Nat}(S:S1 n a L H N)(h:H<2 ^ k)(hk:k<=bK!):∀i,a<=i->i<n->fC! i<C2:=λi h1 h2=>by
 have h3:2 ^ k<=C2:=_B (by decide) hk;have h4:fC! i<=H:=by
  rcases _aS h1 with q | q;·exact _bg (S.bel i q h2).1
  ·subst q;exact Nat.le_of_eq S.hd
 lia
theorem zvl(hn:be!)(ha:a<n)(hf:∀L:Tb,aE!=n->(∃k,a<k/\k<n/\dt!≠0)->Mn n a (f L) L):∀(k:Nat){L:Tb}{H N:Nat},Gd n T L->Zr n a L->S1 n a L H N->H<2 ^ k->k<=bK!->N*4 ^ k<=C8-> ∃m L',Lr f n a m L L'/\Gd n T L'/\Zr n (a+1) L'/\∀i,i<n->∀j,dQ! L' i j<N*4 ^ k
 | 0,L,H,N,g,z,S,h,_,_=>by have:=S.pos;lia | k+1,L,H,N,g,z,S,h,hk,hN=>by
  have p4:N*4 ^ (k+1)=4*N*4 ^ k:=by rw[_dU];grind
  have p1:1<=4 ^ k:=Nat.pos_of_ne_zero (by simp);have pk:2 ^ (k+1)=2*2 ^ k:=by rw[_dU];lia
  have q1:4*N<=4*N*4 ^ k:=_b0 _ p1;have c1:=S.col h hk;have l1:=S.lt;rw[p4]at hN ⊢;generalize hZ:4*N*4 ^ k=Z at *;rcases zgU with h0 | h0;·exact⟨0,L,.done h0,g,z.up h0,l0! (by have:=l1 i hi j;lia)⟩
  ·have M:=hf L ro! h0;obtain⟨S2,h2,h3⟩:=zb4 g ha S M h0;have g2:=g.pas hn ha lZ!;have z2:=z.pas g ha M;have b1:∀i,i<n->∀j,dQ! L i j<C8:=l0! (by have:=l1 i hi j;lia)
   have l2:=S2.lt;rcases zgU with h4 | h4;·exact⟨1,_,.step h0 g.row ro! M b1 c1 (.done h4),g2,z2.up h4,l0! (by have:=l2 i hi j;lia)⟩
   ·have M2:=hf _ g2.len h4;obtain⟨S3,h5,h6⟩:=zb4 g2 ha S2 M2 h4;have hH:dQ! (pas n a (f L) L) (f (pas n a (f L) L)) a<2 ^ k:=by
     obtain⟨i,i1,i2,i3⟩:=h4;have:=M2.mn i (by lia) i2 i3;have:=h3 i i1 i2;lia
    have c2:=S2.col (by lia) hk;have b2:∀i,i<n->∀j,dQ! (pas n a (f L) L) i j<C8:=l0! (by have:=l2 i hi j;lia)
    have pE:S1 n a (pas n a (f (pas n a (f L) L)) (pas n a (f L) L)) (dQ! (pas n a (f L) L) (f (pas n a (f L) L)) a) (4*N):=by
     have e:2*(2*N)=4*N:=by lia
     rw[e]at S3;exact S3
    obtain⟨m,L',r,gl,zl,bl⟩:=zvl hn ha hf k (g2.pas hn ha M2.lt) (z2.pas g2 ha M2) pE hH (by lia) (by rw[hZ];exact hN);rw[hZ]at bl;exact⟨m+2,L',.step h0 g.row ro! M b1 c1 (.step h4 g2.row g2.len M2 b2 c2 r),gl,zl,bl⟩
theorem column{b:Nat} {L:Tb} (hn:be!) (ha:a<n) (hf:∀L:Tb,aE!=n->(∃k,a<k/\k<n/\dt!≠0)->Mn n a (f L) L) (g:Gd n T L) (z:Zr n a L) (hb:∀i,i<n->∀j,dQ! L i j<2 ^ b) (lA:b<=1990): ∃m L',Lr f n a m L L'/\Gd n T L'/\Zr n (a+1) L'/\∀i,i<n->∀j,dQ! L' i j<2 ^ (an! (a+1<n) (4*b+2) b):=by
 have pe:2 ^ b<=2 ^ (an! (a+1<n) (4*b+2) b):=_B (by decide) (by split<;>lia);rcases zgU (n:=n) (a:=a) (L:=L) with h0 | h0;·exact⟨0,L,.done h0,g,z.up h0,l0! (_j (hb i hi j) pe)⟩
 ·have pF:a+1<n:=by obtain⟨k,h1,h2,_⟩:=h0;lia
  rw[_g pF];have M:=hf L ro! h0;have S:=zfD g ha M hb;have e:2 ^ (2*b+2)*4 ^ b=2 ^ (4*b+2):=by
   rw[show 4=2 ^ 2 from rfl,<- Nat.pow_mul,<- _bZ];congr 1;lia
  have p8:2 ^ b<=C8:=_B (by decide) (by lia);have p2:2 ^ b<=C2:=_B (by decide) (by lia);obtain⟨m,L',r,gl,zl,bl⟩:=zvl hn ha hf b (g.pas hn ha lZ!) (z.pas g ha M) S (hb _ lZ! a) (by lia) (by rw[e];exact _B (by decide) (by lia));rw[e]at bl;exact⟨m+1,L',.step h0 g.row ro! M (l0! (_j (hb i hi j) p8)) (λi _ hi=>_j (hb i hi a) p2) r,gl,zl,bl⟩
end
structure Bk(n:Nat)(T L:Tb)(m:Nat):g! where
 len:aE!=n
 row:∀r∈L,aK!=n+n
 lk:∀r∈L,qb!=mv (yi T) mU!
 tri:∀c k,c<k->k<n->e6! k c=0
 dia:∀k,k<m->dQ! L k k=1
 un:∀c,m<=c->c<n->∀k,k<n->e6! k c=ak! k c 1 0
noncomputable def scl(a:Nat)(L:Tb):Tb:=ki! a ((ej!).map λx=>x*cd! a)
noncomputable def bk(a:Nat):Nat->Tb->Tb
 | 0,L=>L | j+1,L=>let M:=bk a j L;M.set j (z1l (at2 M j a) (M.getD a []) (M.getD j []))
section
variable {n a m:Nat}{T L:Tb}
theorem Bk.rl(g:Bk n T L m){k:Nat}(hk:k<n):t! dX!=n+n:=oI! _ (hq! (by rw[g.len];exact hk))
theorem z97(a:Nat):∀(j:Nat)(L:Tb),t! (bk a j L)=aE!
 | 0,L=>rfl | j+1,L=>by simp[bk,z97 a j L]
theorem zhJ{a:Nat}{L:Tb}:∀(j:Nat),j<=a->a<aE!->∀k,ia! (bk a j L) k=an! (k<j) (z1l dt! ej! dX!) dX!
 | 0,_,_,k=>by rw[_o (by omega)];rfl | j+1,h,hl,k=>by
  have ih:=zhJ j (by omega) hl;simp only[bk];have ea:ia! (bk a j L) a=ej!:=by rw[ih,_o (by omega)]
  have ej:ia! (bk a j L) j=cE! j:=by rw[ih,_o (by omega)]
  have e2:at2 (bk a j L) j a=cd! j:=by rw[at2,ej];rfl
  rw[uW _ _ _ _ (by rw[z97];omega),ea,ej,e2];split;·rename_i e;subst e;rw[_g (by omega)]
  ·rename_i ne;rw[ih k];by_cases hk:k<j;·rw[_g hk,_g (by omega)]
   ·rw[_o hk,_o (by omega)]
theorem zi2(d:Int):∀(c r:List Int),dot c (nq! (λx=>x*d))=dot c r*d:=λc r=>zai d c r
theorem zed(d:Int)(r:h!):∀C:Tb,mv C (nq! (λx=>x*d))=(mv C r).map λx=>x*d
 | []=>rfl | c::C=>by
  have:=zed d r C;simp only[mv,_u]at this ⊢;rw[this,zi2]
theorem zh5(d:Int)(r:h!)(j:Nat):bg! (nq! (λx=>x*d)) j=cT! j*d:=by
 simp only[_n,_D];cases r[j]? <;> simp
theorem zlI(g:Bk n T L (a+1))(ha:a<n)(k j:Nat):at2 (scl a L) k j=ak! k a (e6! a j*cd! a) (e6! k j):=by
 unfold at2 scl;rw[uW _ _ _ _ (by rw[g.len];exact ha)];by_cases e:k=a
 ·subst e;rw[gD!,gD!,zh5];rfl
 ·rw[_o (λz=>e jH!),_o e]
theorem Bk.row_at(g:Bk n T L (a+1))(ha:a<n){c:Nat}(hc:c<n)(ne:c≠a):e6! a c=0:=by
 rcases Nat.lt_or_gt_of_ne ne with h | h;·exact g.tri c a h ha
 ·rw[g.un c h hc a ha,_o (by omega)]
theorem step_at(g:Bk n T L (a+1))(ha:a<n)(k j:Nat)(hk:k<n):at2 (bk a a (scl a L)) k j=an! (k<a) (e6! k j-dt!*(e6! a j*cd! a)) (ak! k a (e6! a j*cd! a) (e6! k j)):=by
 have lS:a<t! (scl a L):=by simp[scl,g.len];exact ha
 have e:=zlI g ha;rw[at2,zhJ a am! lS];split
 ·rename_i h;rw[z3H]
  ·have e1:=e k j;have e2:=e a j;have e3:=e k a;rw[_o (by omega)]at e1 e3;rw[gD!]at e2;rw[show bg! (ia! (scl a L) k) j=at2 (scl a L) k j from rfl,show bg! (ia! (scl a L) a) j=at2 (scl a L) a j from rfl,e1,e2,e3]
  ·simp only[scl];rw[uW _ _ _ _ (by rw[g.len];exact ha),uW _ _ _ _ (by rw[g.len];exact ha),gD!,_o (by omega),_z,g.rl ha,g.rl hk]
 ·exact e k j
theorem Bk.step(g:Bk n T L (a+1)) (ha:a<n):Bk n T (bk a a (scl a L)) a:=by
 have dd:cd! a*cd! a=1:=by
  have:=g.dia a (by omega);rcases Int.natAbs_eq_iff.mp iV! with h | h<;>rw[h]<;>rfl
 have ra:∀r,r=(ej!).map (λx=>x*cd! a)->aK!=n+n/\qb!=mv (yi T) mU!:=λr e=>by
  subst e;have m:=hq! (by rw[g.len];exact ha);refine⟨by rw[_z,g.rl ha],?_⟩;rw[<- _co,<- _aU,zed,g.lk _ m]
 have rs:∀r∈scl a L,aK!=n+n/\qb!=mv (yi T) mU!:=dh! (by
  rcases _A hr with h | h;·exact⟨oI! r h,g.lk r h⟩
  ·exact ra r h)
 have lS:t! (scl a L)=n:=by simp[scl,g.len]
 have all:∀j,j<=a->∀r∈bk a j (scl a L),aK!=n+n/\qb!=mv (yi T) mU!:=by
  intro j;induction j with
  | zero=>exact bk! rs | succ j ih=>
   intro hj r hr;have ih:=ih (by omega);simp only[bk]at hr;rcases _A hr with h | rfl;·exact ih r h
   ·have m1:=getD_mem (L:=bk a j (scl a L)) (by rw[z97,lS];exact ha);have m2:=getD_mem (L:=bk a j (scl a L)) (k:=j) (by rw[z97,lS];omega);obtain⟨l1,k1⟩:=ih _ m1;obtain⟨l2,k2⟩:=ih _ m2;refine⟨by rw[z63 (by omega)];exact l2,?_⟩;rw[z7l,zch,zcZ (by rw[_ay,_ay,l1,l2]),k1,k2]
 have e:=step_at g ha;refine⟨by rw[z97,lS],dh! (all a am! r hr).1,dh! (all a am! r hr).2,λc k h1 h2=>?_,λk hk=>?_,λc h1 h2 k hk=>?_⟩
 ·rw[e k c h2,g.tri c k h1 h2];by_cases hc:c=a;·subst hc;rw[_o (by omega),_o (by omega)]
  ·rw[g.row_at ha (by omega) hc];simp
 ·rw[e k k (by omega),_g hk,g.row_at ha (by omega) (by omega)];simp;exact g.dia k (by omega)
 ·rw[e k c hk];by_cases hc:c=a
  ·subst hc;rw[dd];split;·rw[_o (by omega)];omega
   ·split;·rfl
    ·rename_i h3 h4;exact g.tri c k (by omega) hk
  ·rw[g.row_at ha h2 hc];have u:=g.un c (by omega) h2 k hk;split;·rw[u];simp
   ·split;·rename_i h4;subst h4;rw[_o (λz=>hc jH!)];simp
    ·exact u
theorem znr{b:Nat}(g:Bk n T L (a+1))(ha:a<n)(hb:∀i,i<n->∀j,dQ! L i j<2 ^ b):∀i,i<n->∀j,dQ! (bk a a (scl a L)) i j<2 ^ (2*b+1):=l0! (by
 have d1:=g.dia a (by omega);have ea:aZ! (e6! a j*cd! a)=dQ! L a j:=by rw[_aD,d1,Nat.mul_one]
 have p:2 ^ (2*b+1)=2*(2 ^ b*2 ^ b):=by rw[_dU,Nat.two_mul,_bZ];omega
 have h1:=hb i hi j;have h2:2 ^ b<=2 ^ b*2 ^ b:=_b0 _ (_cB b);rw[step_at g ha i j hi,p];split
 ·have h3:aZ! (cd! i*(e6! a j*cd! a))<2 ^ b*2 ^ b:=by rw[_aD,ea];exact _ch (hb i hi a) (hb a ha j)
  omega
 ·split;·have:=hb a ha j;omega
  ·omega)
end
theorem zjv(a b:h!):dot a b=dot b a:=by
 unfold dot;rw[List.zipWith_comm];simp only[_cI]
theorem zhq{n:Nat}{A B:Tb}(hn:be!)(ha:id!)(hb:e8! B):A.map (mv (yi B))=jH A B:=by
 rw[z0L hn ha hb];exact _aq λr _=>_aq λc _=>zjv c r
section
variable {n:Nat}{T L:Tb}
theorem zl0(hn:be!)(hT:hf!)(hf:z0R T)(g:Bk n T L 0):sK! n=gV! T:=by
 have tB:e8! (sK! n):=⟨by simp[g.len],dh! (by
  obtain⟨x,hx,rfl⟩:=jX!;simp[oI! x hx])⟩;have e1:ow! rA!=bB!:=by
  apply _di;intro k;by_cases hk:k<n
  ·have hl:k<aE!:=by rw[g.len];exact hk
   rw[_D,_b hl,one,_D,_aH hk];simp only[_ai,_y];apply _di;intro c;have el := oI! _ (_J hl);by_cases hc:c<n
   ·have u:=g.un c gL! hc k hk;have ga:e6! k c=L[k][c]'(by lia):=by simp[at2,_b hl,_b (show c<t! (L[k]) by lia)]
    rw[ga]at u;rw[_an hc,_b (by lia),u,_D,_aH hc];rfl
   ·rw[_M (by simp;lia),_M (by simp;lia)]
  ·rw[_M (by simp[g.len];lia),_M (by simp[one];lia)]
 have e2:jH (sK! n) T=bB!:=by
  rw[<- zhq hn tB hT,<- e1,_ag];exact _aq (dh! (g.lk r hr).symm)
 have b:=z7O hn hT hf;have h3:=assoc hn tB hT (z1B hT);rw[e2,b.2,(z5Y hn (z1B hT)).1,(z5Y hn tB).2]at h3;exact h3.symm
noncomputable def lay(T:Tb):Tb:=oC! (λa b=>a++b) T (one bt!)
theorem zpX(hn:be!) (hT:hf!) (hf:z0R T):Gd n T (lay T):=by
 have ln:t! (lay T)=n:=by simp[lay,one,hT.len]
 have hd:jV! 4 T=1:=by rcases hf with h | h<;>rw[h]<;>rfl
 have at_:∀r∈lay T,∃k,∃h:k<T.length,∃h':k<(one n).length,r=T[k]++bB![k]:=dh! (by
  unfold lay at hr;rw[hT.len]at hr;obtain⟨k,hk,e⟩:=gr! hr;rw[List.length_zipWith]at hk;rw[_ct]at e;exact⟨k,by lia,by lia,e.symm⟩)
 have lT:∀(k:Nat) (h:k<T.length),t! (T[k])=n:=λk h=>hT.row _ (_J h);have tk:(lay T).map rA!=T/\(∀r∈lay T,aK!=n+n)/\∀r∈lay T,qb!=mv (yi T) mU!:=by
  refine⟨_aM (by rw[_z,ln,hT.len]) (nC! ?_),dh! ?_,dh! ?_⟩
  ·rw[_bG];simp only[lay,_ct];exact List.take_left' (lT k h2)
  ·obtain⟨k,h,h',rfl⟩:=at_ r hr;rw[_as,lT k h,(z4q n).row _ (_J h')]
  ·obtain⟨k,h,h',rfl⟩:=at_ r hr;rw[List.take_left' (lT k h),List.drop_left' (lT k h)];have e:=aJ! (zhq hn (z4q n) hT) (z5Y hn hT).1;have e2:=_bG (l:=bB!) (mv (yi T)) (i:=k) (h:=by rw[_z];exact h');rw[<- e2];exact (List.getElem_of_eq e _).symm
 exact⟨ln,tk.2.1,tk.2.2,by rw[tk.1];exact hd⟩
theorem zrJ{b:Nat}(hn:be!)(hT:hf!)(hb:Bd b T)(b1:1<=b):∀i,i<n->∀j,dQ! (lay T) i j<2 ^ b:=l0! (by
 have h2:1<2 ^ b:=Nat.one_lt_two_pow (by lia);have all:∀r∈lay T,∀x∈r,de! b:=λr hr x hx=>by
  simp only[lay]at hr;obtain⟨k,hk,e⟩:=gr! hr;rw[_ct]at e;subst e;rcases nl! hx with h | h;·exact hb _ (_J _) x h
  ·simp only[one,_bG,_q]at h;obtain⟨c,_,rfl⟩:=h;split<;>simp<;>lia
 unfold at2;have ln:i<t! (lay T):=by simp[lay,one,hT.len];exact hi
 exact z6C (all _ (hq! ln)) j)
theorem Gd.bk(g:Gd n T L)(hn:be!)(z:Zr n n L):Bk n T L n:=by
 have tri := λc k h1 h2=>z c (by lia) k h1 h2;have tk:∀k c,c<n->bg! (ia! (ow! rA!) k) c=e6! k c:=λk c hc=>by
  rw[getD_map];simp[at2,_an hc]
 refine⟨ro!,g.row,g.lk,tri,λk hk=>?_,λc h1 h2=>by lia⟩;have:=zp4 hn g.tab (λc k h1 h2=>by rw[tk k c (by lia)];exact tri c k h1 h2) g.dt k hk;rw[tk k k hk]at this;exact this
end
end Pb
namespace Pr
open L2 Dd Pm Pg Pn Po
theorem zfi:∀a b:List Int,PyData.eqvAll (on! (iL a)) (on! (iL b))=jb! a b
 | [],[]=>by simp[toPys,PyData.eqvAll] | [],_::_=>by simp[toPys,PyData.eqvAll] | _::_,[]=>by simp[toPys,PyData.eqvAll] | x::a,y::b=>by
  have ih:=zfi a b;simp only[iL]at ih;simp[toPys,z8e,PyData.eqvAll,PyData.eqv,ih];rfl
theorem zls(a b:h!):eqD (rD a) (rD b)=jb! a b:=by
 have:=zfi a b;simp only[eqD,z8e,PyData.eqv,this]
theorem znI(a b:h!)(s:Sto):dEq (rD a) (rD b) s=fo! (a=b):=by rw[dEq,bS! (z8K (k:=1) (zmv 0 a) (by decide)) (z8K (k:=1) (zmv 0 b) (by decide)),zls]
end Pr
namespace Pt
open L2 Dd Pm Pg Pn Po Pr
structure Lt(n b:Nat)(v:h!):g! where
 lot:aQ!
 le:∀x∈v,x<=j! b
end Pt
namespace Pv
open L2 Dd Pm Pg Pn Po Pr Pt
end Pv
namespace Pv
open L2 Dd Pm Pg Pn Po Pr Pt
end Pv
namespace aW
open L2 Dd Pm Pg Pn Po Pb
noncomputable def rL(r:h!):D:=bN! r
theorem z3Y(r:h!):(rL r).flat=d!:=by
 unfold rL;simp only[D.flat];induction r with
 | nil=>rfl | cons x r ih=>simp only[_u,Bool.true_and]at ih ⊢;exact ih
theorem zeO:∀L:Tb,dj! mA!
 | []=>rfl | r::L=>by simp only[_u,D.flat.flats,z3Y,zeO L,Bool.and_self]
theorem xM(s:Sto)(x:x!):G! (s++[x]) aW! x:=by simp
theorem z6L(s:Sto)(x y:x!):(s++[x]).set aW! y=s++[y]:=by simp
theorem jx{L:Tb}{s:Sto}{l k:Nat}(h:G! s l mA!)(hk:k<aE!):c9! db! k s=k! (rL dX!):=by
 refine zbg h (by lia) ?_;rw[_D,_W,_b hk,_n,_b hk];rfl
theorem znY{r:h!}{s:Sto}{j:Nat}(hj:j<aK!):c9! (rL r) j s=v! (cT! j):=by
 refine wO (by lia) ?_;rw[_D,_W,_b hj,_n,_b hj];rfl
theorem el2{L:Tb}{s:Sto}{ρ:Ev}{a b c l k j:Nat}(h:G! s l mA!)(ha:G! ρ a J!)(hb:G! ρ b bh!)(hc:G! ρ c aO!)(hk:k<aE!)(hj:j<t! dX!): hF! (ax! a b) (zd c) ρ s=v! (e6! k j):=by
 rw[op2 (by rw[op2 (vr ha) (vr hb),jx h hk]) (vr hc),znY hj];rfl
theorem zip_rows:∀h r:List Int,z4Q (iL h) (iL r)=kv! h r (i8! (cU! p.1 p.2))
 | [],_=>by simp[z4Q] | _::_,[]=>by simp[z4Q] | a::h,b::r=>by
  have:=zip_rows h r;simp only[_u,z4Q,_bo]at this ⊢;rw[this]
theorem zgZ(q:Int):∀h r:List Int,kv! h r (λp=>aP! (p.2-q*p.1))=iL (z1l q h r)
 | [],_=>by simp[z1l] | _::_,[]=>by simp[z1l] | a::h,b::r=>by
  have:=zgZ q h r;simp only[z1l,_bo,_u,_a1]at this ⊢;rw[this]
theorem zek{L:Tb} {s:Sto} {ρ:Ev} {l k:Nat} {q:Int} {h:h!} (hs:G! s l mA!) (h2:G! ρ 2 J!) (h6:G! ρ 6 (dC! h)) (h7:G! ρ 7 bh!) (h8:G! ρ 8 (e! q)) (hk:k<aE!) (hl:h.length<=100) (bq:q.natAbs<2 ^ (2 ^ 16)) (bh:∀x∈h,de! (2 ^ 16)): zt (z5b (cc! (zd 6) (ax! 2 7))) (dE! 8) (yS 1 2) zU (kK! 2 (dz! z8G 0 r!)) ρ s=k! (rL (z1l q h dX!)):=by
 have row:hF! P! (zd 7) ρ s=k! (rL dX!):=by rw[op2 (vr h2) (vr h7),jx hs hk]
 have hi:z5b (cc! (zd 6) (ax! 2 7)) ρ s=k! (kv! h dX! (i8! (cU! p.1 p.2)),[]):=by simp only[z5b,zq,zL,row,vr h6,Rb,rL,z9e,zip_rows,_aL]
 have e8:wP (dE! 8) ρ=dE! (c! q):=by simp[h8]
 have:=comp_map (fg:=yS 1 2) (fe:=kK! 2 (dz! z8G 0 r!)) (pK! (gT! (cU! p.1 p.2))) (λp=>aP! (p.2-q*p.1)) (λp=>[e! q,e! p.1,e! p.2]) (pJ! h dX!) hi (bs! (by rw[e8];rfl)) (bs! (by
   have m:eOp z8G u! r! [e! q,e! p.1,e! p.2] s=v! (q*p.1):=by
    rw[fb! p!];exact zhB bq (bh _ (mo!).1) s
   rw[fb! m];rfl)) (by simp[cap];lia);rw[this,zgZ];rfl
noncomputable def V9(t:D)(n l:Nat)(x3 x4 x5 x6 x7 x8:fN!):Ev:=[b! t,bC!,J!,x3,x4,x5,x6,x7,x8]
noncomputable def z3T(n a:Nat)(L:Tb):jY!:=kP! (aT! (n-a) (λk=>a+k)) (λk=>cz! dt! 0)
noncomputable def prs(n a:Nat)(L:Tb):Tb:=(z3T n a L).map λk=>[j! (fC! k),j! k]
noncomputable def z9A(n a:Nat)(L:Tb):Nat:=match z8I [] (X! (eP! (prs n a L))) with
 | some (.tup [_,.int i]::_)=>i.toNat | _=>0
theorem z2S{n a k:Nat}{L:Tb}:k∈z3T n a L ↔ a<=k/\k<n/\dt!≠0:=by
 simp only[z3T,_bp,_q,_aO,_aA];constructor;·rintro⟨⟨j,h,rfl⟩,z⟩;exact⟨by lia,by lia,z⟩
 ·rintro⟨h1,h2,z⟩;exact as! ⟨k-a,by lia,by lia⟩ z
theorem zk4(n a:Nat)(L:Tb):(z3T n a L).Nodup:=by
 refine List.Pairwise.filter _ (_dl _ (λx y h=>?_) List.nodup_range);intro z;exact h (by lia)
theorem zb8(n a:Nat)(L:Tb):t! (z3T n a L)<=n-a:=_G (List.length_filter_le _ _) (by simp)
theorem zih{n a:Nat}{L:Tb}(hn:n<=4)(h:∃k,a<k/\k<n/\dt!≠0):∃(G:Tb),z8I [] (X! (eP! (prs n a L)))=b! (eP! (([j! (fC! (z9A n a L)),j! (z9A n a L)])::G))/\Mn n a (z9A n a L) L:=by
 have nd:(prs n a L).Nodup:=by
  refine _dl _ (λx y h z=>h ?_) (zk4 n a L);simp at z;have:=z.2;lia
 have ln:t! (prs n a L)<64:=by have:=zb8 n a L;simp only[prs,_z];lia
 obtain⟨G,e,up,mem,gl⟩:=Pr.zkr (d:=X! (eP! (prs n a L))) rfl nd (C! ln) (λv hv=>by
  simp only[prs,_q]at hv;obtain⟨k,_,rfl⟩:=hv;simp);obtain⟨k0,h1,h2,h3⟩:=h;have m0 := (mem _).mpr (_q.mpr ⟨k0,z2S.mpr ⟨by lia,h2,h3⟩,rfl⟩);cases G with
 | nil=>simp at m0 | cons g G=>
  have mg:=(mem g).mp iA!;simp only[prs,_q]at mg;obtain⟨f,hf,rfl⟩:=mg;obtain⟨f1,f2,f3⟩:=z2S.mp hf;have ef:z9A n a L=f:=by
   unfold z9A;rw[e];simp[rD]
  rw[ef];refine⟨G,e,f1,f2,f3,λk k1 k2 k3=>?_⟩;have mk := (mem _).mpr (_q.mpr ⟨k,z2S.mpr ⟨k1,k2,k3⟩,rfl⟩);rcases ep! mk with z | z;·simp at z;lia
  ·have:=(List.pairwise_cons.mp up).1 _ z;simp only[lexN]at this;split at this;·lia
   ·have:=_dk iV!;lia
section
variable {t:D}{n a:Nat}{L:Tb}{s:Sto}{x4 x5 x6 x7 x8:fN!}
theorem zhc(s:Sto)(xs:x!):z8I s bx!=z8I [] bx!:=rfl
theorem zhI{f g:FE}{ρ:Ev}{s:Sto}{i j:Nat}(hf:ay!=v! i)(hg:g ρ s=v! j)(hi:dv! i)(hj:dv! j):zdc (cc! f g) ρ s=k! ((aT! (j-i) (λk=>i+k)).map (fL! k),[]):=by
 simp only[znL,zq,zL,hf,hg,Rb];rw[_g (by lia)];simp only[_ag];rw[show fI! (j! j-i)=j-i by lia];congr 2
theorem zt2(hn:n<=4) (ha:a<n) (hl:aE!=n) (hr:∀r∈L,aK!=n+n):vI (gm! x6) bj!=H! (dA! t n (e! a) (aL! ((z3T n a L).map (fL! k))) x5 x6 x7 x8) bj!:=by
 have hs:=xM s mA!;have c:zt (zdc (hY! 3 1)) (fw! 3 2) (yh 2) (eS! (co! (ax! 1 2) u!) A!) P! (gm! x6) bj!=gJ! (X! ((z3T n a L).map (fL! k))):= xI (fL! k) (fL! k) (λk=>cz! dt! 0) (λk=>[e! a,ad!,bh!]) (aT! (n-a) (λk=>a+k)) (zhI p! p! (by lia) (by lia)) (λk _=>rfl) (λk hk=>by
    obtain⟨j,hj,rfl⟩:=_q.mp hk;have hj:=_aO.mp hj;have e:=el2 (ρ:=[e! a,ad!,e! (aa! (a+j))]) (a:=1) (b:=2) (c:=0) hs rfl rfl rfl (by lia) (by rw[o6! _ (by lia)];lia);rw[vo];rw[op2 e (qE ..),z5x]) (λk _ _=>p!) (by simp[cap];lia);rw[vI,zR,c];rfl
end
section
variable {t:D}{n a:Nat}{L:Tb}{s:Sto}{x4 x5 x6 x7 x8:fN!}
theorem ztk(hn:n<=4) (ha:a<n) (hl:aE!=n) (hr:∀r∈L,aK!=n+n) (h:∃k,a<k/\k<n/\dt!≠0):vL (dA! t n (e! a) (aL! ((z3T n a L).map (fL! k))) x5 x6 x7 x8) bj!=H! (dA! t n (e! a) (aL! ((z3T n a L).map (fL! k))) (e! (z9A n a L)) x6 x7 x8) bj!:=by
 have hs:=xM s mA!;have c:zt (zQ (zd 4)) (fw! 3 2) (yh 2) zU (dL! (aM! zlC (co! (ax! 1 2) u!)) P!) (dA! t n (e! a) (aL! ((z3T n a L).map (fL! k))) x5 x6 x7 x8) bj!=gJ! (X! (eP! (prs n a L))):=by
  have:=comp_map (fi:=zQ (zd 4)) (mp:=fw! 3 2) (fg:=yh 2) (fe:=dL! (aM! zlC (co! (ax! 1 2) u!)) P!) (ρ:=dA! t n (e! a) (aL! ((z3T n a L).map (fL! k))) x5 x6 x7 x8) (s:=bj!) (fL! k) (λk:Nat=>rD [j! (fC! k),j! k]) (λk=>[e! a,ad!,bh!]) (z3T n a L) (jy p!) (λk _=>rfl) (λk hk=>by
    obtain⟨k1,k2,k3⟩:=z2S.mp hk;have e:=el2 (ρ:=[e! a,ad!,e! (j! k)]) (a:=1) (b:=2) (c:=0) hs rfl rfl rfl (by lia) (by rw[o6! _ (by lia)];lia);have e1:=yF (M:=zlC) e;simp only[zlC]at e1;simp only[z1Q,zq,zL,e1,vr (ρ:=[e! a,ad!,e! (j! k)]) (i:=2) rfl,Rb];rw[_g (by simp[cap]),show (an! (dt!<0) (-dt!) dt!)=j! (fC! k) by lia];rfl) (by have:=zb8 n a L;simp[cap];lia);rw[this];simp only[prs,_ag];rfl
 obtain⟨G,eG,M⟩:=zih hn h;have e2:ze zbj (a0! (i7! (zQ (zd 4)) (fw! 3 2) 2 (dL! (aM! zlC (co! (ax! 1 2) u!)) P!))) (dA! t n (e! a) (aL! ((z3T n a L).map (fL! k))) x5 x6 x7 x8) bj!=gJ! (X! (eP! (([j! (fC! (z9A n a L)),j! (z9A n a L)])::G))):=by
  rw[yF c];simp only[zbj];rw[zhc,eG]
 have e3:∀(x:Int) (f:Nat),c9! (X! (eP! ([x,j! f]::G))) 0 bj!=gJ! (rD [x,j! f]):=λx f=>kN! (by decide);have e4:∀(x:Int) (f:Nat),c9! (rD [x,j! f]) 1 bj!=gJ! (c! f):=λx f=>rfl;have e5:=aJ! (op2 e2 (qE _ _ cu!)) (e3 _ _);rw[vL,zR,aJ! (op2 e5 (qE _ _ (c! 1))) (e4 _ _)];rfl
theorem zss{f:Nat}(hf:f<aE!):vW (dA! t n (e! a) x4 (e! f) x6 x7 x8) bj!=H! (dA! t n (e! a) x4 (e! f) (dC! (cE! f)) x7 x8) bj!:=by
 rw[vW,zR,fb! p!,jx (xM s mA!) hf];rfl
theorem zvi{f:Nat}(hf:f<aE!)(ha:a<aE!):vP (dA! t n (e! a) x4 (e! f) x6 x7 x8) bj!=H! (dA! t n (e! a) x4 (e! f) x6 x7 x8) (s++[gc! (ki! f ej!)]):=by
 rw[vP,z31 (by rw[fb! p!,jx (xM s mA!) ha]) p! p! (xM s _) (by lia) (by simp;lia) (z3Y _),z6L,_ba];rfl
theorem zuZ{r:h!}(ha:a<aE!):uc (gm! (dC! r)) bj!=H! (gm! (dC! r)) (s++[gc! (ki! a r)]):=by
 rw[uc,z31 p! p! p! (xM s _) (by lia) (by simp;lia) (z3Y _),z6L,_ba];rfl
theorem zpp{k:Nat} {hd:h!} (hk:k<aE!) (hr:∀r∈L,a<aK!) (ha:a<hd.length) (nz:jW! 0≠0) (bd:aZ! (jW! 0)<BIG):uQ (hL! (dC! hd) bh! x8) bj!=H! (hL! (dC! hd) bh! (e! ((dt!).fdiv (jW! 0)))) bj!:=by
 have e:=el2 (ρ:=hL! (dC! hd) bh! x8) (a:=2) (b:=7) (c:=3) (xM s _) rfl rfl rfl hk (o6! _ hk);have e2:hF! (zd 6) bp! (hL! (dC! hd) bh! x8) bj!=gJ! (c! (jW! 0)):=by rw[fb! p!,znY ha]
 rw[uQ,zR,op2 e e2,zkv nz bd];rfl
theorem zr5{k:Nat}{q:Int}{hd:h!}(hk:k<aE!)(hl:hd.length<=100)(bq:q.natAbs<2 ^ (2 ^ 16))(bh:∀x∈hd,de! (2 ^ 16)):uU (hL! (dC! hd) bh! (e! q)) bj!=H! (hL! (dC! hd) bh! (e! q)) (s++[gc! (ki! k (z1l q hd dX!))]):=by
 rw[uU,z31 (zek (xM s _) rfl rfl rfl rfl hk hl bq bh) p! p! (xM s _) (by lia) (by simp;lia) (z3Y _),z6L,_ba];rfl
end
theorem pw{b c:Nat}(h:b<=c):2 ^ b<=2 ^ c:=_B (by decide) h
theorem zwd{x:Nat}(h:x<C2):x<BIG:=_j h (pw (by decide))
theorem zsO{x:Nat}(h:x<C2):x+1<2 ^ (2 ^ 16):=_bj h (Nat.pow_lt_pow_right (by decide) (by decide))
theorem zte{x:Nat}(h:x<C8):x<2 ^ (2 ^ 16):=_j h (pw (by decide))
theorem zd8{L:Tb}{k:Nat}{x:Int}(h:x∈dX!):∃j,x=e6! k j:=by
 obtain⟨j,hj,e⟩:=gr! h;exact⟨j,by rw[at2,_n ,_b hj];exact e.symm⟩
section
variable {t:D}{n a:Nat}{L:Tb}{s:Sto}{x4 x5 x6 x7 x8:fN!}
theorem zrk{hd:h!} (hn:n<=4) (ha:a<n) (hl:aE!=n) (hr:∀r∈L,aK!=n+n) (hh:hd.length=n+n) (nz:jW! 0≠0) (bd:aZ! (jW! 0)<C2) (bh:∀x∈hd,iX!<C8) (bc:∀k,a<k->k<n->fC! k<C2): ∃y7 y8,vb (gm! (dC! hd)) bj!=H! (hL! (dC! hd) y7 y8) (s++[gc! (elim a hd (n-1-a) L)]):=by
 have hi:zdc (ip! (fQ! 3) 1) (gm! (dC! hd)) bj!=gJ! ((aT! (n-(a+1)) (λk=>a+1+k)).map (fL! k),[]):= zhI (by rw[fb! (qE ..),z91];rfl) p! (by lia) (by lia);obtain⟨ρ',s',e,y7,y8,e1,e2⟩:=z1K (body:=eO! (yh 7 d ρ s) ((zy uQ uU) ρ' s')) (λj ρ S=>∃y7 y8,ρ=hL! (dC! hd) y7 y8/\S=s++[gc! (elim a hd j L)]) ((aT! (n-(a+1)) (λk=>a+1+k)).map (fL! k)) 0 (λj x hx ρ S hI=>by
   obtain⟨y7,y8,rfl,rfl⟩:=hI;rw[_at];have hj:j<n-(a+1):=by have:=cV! hx;simpa using this
   have ex:x=c! (aa! (a+1+j)):=by
    rw[_D,_D,_aH hj]at hx;exact (_p hx).symm
   have len:t! (elim a hd j L)=n:=by rw[z35,hl]
   have get:=z5S (a:=a) (hd:=hd) (L:=L) j (by lia);have cu:∀r∈elim a hd j L,a<aK!:=λr cR=>by
    obtain⟨k,hk,e⟩:=gr! cR;have e':r=ia! (elim a hd j L) k:=by rw[_n,_b hk];exact e.symm
    rw[e',get];have lk:=hr _ (getD_mem (k:=k) (by lia));split;·rw[z63 (by lia)];lia
    ·lia
   have ek:at2 (elim a hd j L) (a+1+j) a=cd! (a+1+j):=by rw[at2,get,_o (by lia)];rfl
   have f1:=zpp (t:=t) (n:=n) (s:=s) (x4:=x4) (x5:=x5) (x8:=y8) (k:=a+1+j) (by lia) cu (by lia) nz (zwd bd);have q:=(fd (x:=cd! (a+1+j)) nz).2.2.1;have bq:aZ! ((at2 (elim a hd j L) (a+1+j) a).fdiv (jW! 0))<2 ^ (2 ^ 16):=by
    rw[ek];have h1:=zsO (bc (a+1+j) (by lia) (by lia));have h0:1<=aZ! (jW! 0):=by lia
    refine _bj ?_ h1;generalize aZ! ((cd! (a+1+j)).fdiv (jW! 0))=Q at q ⊢;generalize aZ! (jW! 0)=Hh at q h0;generalize fC! (a+1+j)=X at q;apply _Z;intro z;have h2:(X+2)*Hh<=Q*Hh:=_aE _ (by lia);have h3:X<=X*Hh:=_b0 _ h0;rw[_df]at h2;lia
   have f2:=zr5 (t:=t) (n:=n) (a:=a) (L:=elim a hd j L) (s:=s) (x4:=x4) (x5:=x5) (k:=a+1+j) (hd:=hd) (by lia) (by lia) bq (ac! (zte (bh x hx)));refine⟨_,_,?_,e! (aa! (a+1+j)),e! ((at2 (elim a hd j L) (a+1+j) a).fdiv (jW! 0)),rfl,rfl⟩;rw[ex,vX,Rb];exact aJ! (zm f1) f2) (gm! (dC! hd)) bj! (fO! x7 x8 rfl);refine a3! y7 y8 ?_;rw[vb,jP,hi,Rb];refine rR! ?_;rw[e1,e2];simp only[_z,_de,_at];rw[show n-(a+1)=n-1-a by lia]
theorem zp0(hn:n<=4)(ha:a<n)(hl:aE!=n)(hr:∀r∈L,aK!=n+n)(h:∃k,a<k/\k<n/\dt!≠0)(b1:∀i,i<n->∀j,dQ! L i j<C8)(b2:∀i,a<=i->i<n->fC! i<C2): ∃y4 y5 y6 y7 y8,zy vI (dB! vL vW vP uc vb) (gm! x6) bj!=H! (dA! t n (e! a) y4 y5 y6 y7 y8) (s++[gc! (pas n a (z9A n a L) L)]):=by
 obtain⟨_,_,M⟩:=zih hn h;rw[zm (zt2 hn ha hl hr),zm (ztk hn ha hl hr h)];have fl:=M.lt;have pG:=M.le;have pH:=M.nz;generalize z9A n a L=f at *;have fR:f<aE!:=by lia
 rw[zm (zss fR),zm (zvi fR (by lia)),zm (zuZ (by simp;lia))];have eg:∀k,ia! ((ki! f ej!).set a (cE! f)) k=ak! a k (cE! f) (ak! f k ej! dX!):=λk=>by rw[uW _ _ _ _ (by simp;lia),uW _ _ _ _ fR]
 obtain⟨y7,y8,e⟩:=zrk (L:=(ki! f ej!).set a (cE! f)) hn ha (by simp[hl]) (λr cR=>by
   rcases _A cR with h | rfl
   ·rcases _A h with h | rfl;·exact hr r h
    ·exact o6! _ (by lia)
   ·exact o6! _ fR) (o6! _ fR) pH (b2 f pG fl) (ac! (by
   obtain⟨j,rfl⟩:=zd8 hx;exact b1 f fl j)) (nC! (by
   rw[at2,eg,_o (by lia)];split;·exact b2 a am! ha
   ·exact b2 k (by lia) h2));exact⟨_,_,_,y7,y8,e⟩
theorem zgH(hn:n<=4) (ha:a<n) (hl:aE!=n) (hr:∀r∈L,aK!=n+n):∃b,tOf (eOp dNe (i6! (zQ (fg! P! (fQ! 3))) (F! 3) 1 (eS! (gC! 1) A!) r!) (qg zi)) (gm! x6) bj!=gJ! b/\(b=d! ↔ ∃k,a<k/\k<n/\dt!≠0):=by
 have sl:eSl P! (yx (fQ! 3)) zC (gm! x6) bj!=gJ! (X! (gc! (pV! (a+1)))):=by
  have e1:yx (fQ! 3) (gm! x6) bj!=gJ! (b! (aa! (a+1))):=by
   unfold yx;rw[fb! (qE ..),z91];rfl
  simp only[eSl,vr (ρ:=gm! x6) (i:=2) rfl,e1,Rb,zC,dSl,Dd.listOf,xM];rw[z6c,_aU]
 have c:=xI (mp:=F! 3) (fg:=yh 1) (ft:=eS! (gC! 1) A!) (fe:=r!) rL rL (λr=>cz! (cT! a) 0) (λr=>[e! a,dC! r]) (pV! (a+1)) (jy sl) (λr _=>rfl) (λr cR=>by
   have e:hF! r! u! [e! a,dC! r] bj!=gJ! (c! (cT! a)):=by rw[fb! p!,znY (by rw[hr r (_aF cR)];lia)]
   rw[vo];rw[op2 e (qE ..),z5x]) (λr _ _=>p!) (by simp[cap];lia);have ok:okD 2 (X! (gc! (kP! (pV! (a+1)) (λr=>cz! (cT! a) 0))))=d!:=by
  simp only[okD,_Q];intro x hx;obtain⟨r,_,rfl⟩:=gB!;simp[rL,okD,_Q]
 refine bQ! (vo (by rw[op2 c (by simp;rfl)];exact ne_nil ok (by decide) _)) ?_;simp only[List.isEmpty_map];constructor
 ·intro h;cases q:kP! (pV! (a+1)) (λr=>cz! (cT! a) 0) with
  | nil=>rw[q]at h;simp at h | cons r w=>
   have m:r∈kP! (pV! (a+1)) (λr=>cz! (cT! a) 0):=by rw[q];exact iA!
   obtain⟨m1,m2⟩:=_bp.mp m;obtain⟨i,hi,e⟩:=gr! m1;rw[List.getElem_drop]at e;have pI:a+1+i<aE!:=by simp at hi;lia
   refine⟨a+1+i,by lia,by lia,?_⟩;rw[at2,_n (l:=L),_b pI];show bg! (L[a+1+i]) a≠0;rw[e];exact _dk m2
 ·rintro⟨k,h1,h2,h3⟩;have hk:k<aE!:=by lia
  have m:dX!∈kP! (pV! (a+1)) (λr=>cz! (cT! a) 0):=by
   refine _bp.mpr ⟨?_,_af h3⟩;rw[_n,_b hk];exact _r.mpr ⟨k-(a+1),by simp;lia,by rw[List.getElem_drop];simp only[_aG];congr 1;lia⟩
  cases q:kP! (pV! (a+1)) (λr=>cz! (cT! a) 0) with
  | nil=>rw[q]at m;simp at m | cons=>rfl
theorem zjD(hn:n<=4)(ha:a<n):∀{m:Nat}{L L':Tb}{x4 x5 x6 x7 x8:Option D},aE!=n->(∀r∈L,aK!=n+n)->Lr (z9A n a) n a m L L'->∃y4 y5 y6 y7 y8,qP (gm! x6) bj!=H! (dA! t n (e! a) y4 y5 y6 y7 y8) (s++[rI!]):=by
 intro m L L' x4 x5 x6 x7 x8 hl hr lr;have key:∃y4 y5 y6 y7 y8,vk (eS! (i6! (zQ (fg! P! (fQ! 3))) (F! 3) 1 (eS! (gC! 1) A!) r!) (qg zi)) (zy vI (dB! vL vW vP uc vb)) (m+1) (gm! x6) bj!=H! (dA! t n (e! a) y4 y5 y6 y7 y8) (s++[rI!]):=by induction lr generalizing x4 x5 x6 x7 x8 with
  | @done L h=>
   obtain⟨b,e,hb⟩:=zgH hn ha hl hr;have:b=q!:=by cases b with
    | false=>rfl | true=>obtain⟨k,h1,h2,h3⟩:=hb.mp rfl;exact bO! (h k h1 h2) h3
   subst this;refine⟨x4,x5,x6,x7,x8,?_⟩;simp only[vk];rw[e];rfl | @step m L L' h r l M b1 b2 q ih=>
   obtain⟨b,e,hb⟩:=zgH hn ha hl hr;have := hb.mpr h;subst this;obtain⟨z4,z5,z6,z7,z8,p⟩:=zp0 hn ha hl hr h b1 b2;have len:t! (pas n a (z9A n a L) L)=n:=by simp[pas,z35,hl]
   have cu:∀r∈pas n a (z9A n a L) L,aK!=n+n:=by
    have all:∀j,a+1+j<=n->∀r∈elim a (cE! (z9A n a L)) j ((ki! (z9A n a L) ej!).set a (cE! (z9A n a L))),aK!=n+n:=by
     have hf:t! (cE! (z9A n a L))=n+n:=o6! _ (by have:=M.lt;lia);intro j;induction j with
     | zero=>
      intro _ r cR;rcases _A cR with h | rfl
      ·rcases _A h with h | rfl;·exact hr r h
       ·exact o6! _ (by lia)
      ·exact hf | succ j ih=>
      intro hj r cR;simp only[elim]at cR;rcases _A cR with h | rfl;·exact ih (by lia) r h
      ·have:=ih (by lia) _ (getD_mem (k:=a+1+j) (by rw[z35];simp;lia));rw[z63 (by lia)];exact this
    exact all _ (by lia)
   obtain⟨y4,y5,y6,y7,y8,w⟩:=ih len cu;refine⟨y4,y5,y6,y7,y8,?_⟩;rw[vk,e,Rb];simp only[_v];rw[p,Rb];exact w
 obtain⟨y4,y5,y6,y7,y8,w⟩:=key;exact⟨y4,y5,y6,y7,y8,by rw[qP];exact z3s w (by simp)⟩
end
def bt:Nat->Nat
 | 0=>106 | 1=>426 | 2=>1706 | _=>6826
theorem zj1{a n:Nat}(hn:n<=4)(ha:a<n):(an! (a+1<n) (4*bt a+2) (bt a))<=bt (a+1):=by rcases (show a=0\/a=1\/a=2\/a=3 by lia) with rfl | rfl | rfl | rfl<;>split<;>simp only[bt]<;>lia
section
variable {t:D}{n:Nat}{T L:Tb}{s:Sto}{x3 x4 x5 x6 x7 x8:fN!}
theorem zuQ(hn:be!) (g:Gd n T L) (hb:∀i,i<n->∀j,dQ! L i j<2 ^ 106):∃L' y3 y4 y5 y6 y7 y8,z06 (dA! t n x3 x4 x5 x6 x7 x8) bj!=H! (dA! t n y3 y4 y5 y6 y7 y8) (s++[rI!])/\Bk n T L' n/\∀i,i<n->∀j,dQ! L' i j<2 ^ 6826:=by
 have n4:n<=4:=by unfold Sz at hn;lia
 obtain⟨ρ',s',e,L',y3,y4,y5,y6,y7,y8,e1,e2,g',z',b'⟩:=z1K (all:=yr n) (body:=eO! (yh 3 d ρ s) (qP ρ' s')) (λa ρ S=>∃L' y3 y4 y5 y6 y7 y8,ρ=dA! t n y3 y4 y5 y6 y7 y8/\S=s++[rI!]/\Gd n T L'/\Zr n a L'/\∀i,i<n->∀j,dQ! L' i j<2 ^ bt a) (yr n) 0 (λa x hx ρ S hI=>by
   obtain⟨L1,y3,y4,y5,y6,y7,y8,rfl,rfl,g1,z1,b1⟩:=hI;obtain⟨ha,rfl⟩:=z3x hx;rw[_at]at z1 b1;rw[_at];have hf:∀L:Tb,aE!=n->(∃k,a<k/\k<n/\dt!≠0)->Mn n a (z9A n a L) L:=λL _ h=>by
    obtain⟨_,_,M⟩:=zih (n:=n) (a:=a) (L:=L) n4 h;exact M
   have fin:∃m L2,Lr (z9A n a) n a m L1 L2/\Gd n T L2/\Zr n (a+1) L2/\∀i,i<n->∀j,dQ! L2 i j<2 ^ bt (a+1):=by
    by_cases h3:a+1<n
    ·obtain⟨m,L2,lr,g2,z2,b2⟩:=column (f:=z9A n a) hn ha hf g1 z1 b1 (by rcases (show a=0\/a=1\/a=2 by lia) with rfl | rfl | rfl<;>decide);exact⟨m,L2,lr,g2,z2,l0! (_j (b2 i hi j) (pw (zj1 n4 ha)))⟩
    ·have z:∀k,a<k->k<n->at2 L1 k a=0:=nC! (by lia)
     refine⟨0,L1,.done z,g1,z1.up z,l0! (_j (b1 i hi j) (pw ?_))⟩;have:=zj1 n4 ha;rw[_o h3]at this;exact this
   obtain⟨m,L2,lr,g2,z2,b2⟩:=fin;obtain⟨w4,w5,w6,w7,w8,e⟩:=zjD (t:=t) (s:=s) (x4:=y4) (x5:=y5) (x6:=y6) (x7:=y7) (x8:=y8) n4 ha g1.len g1.row lr;exact⟨_,_,by rw[vX,Rb];exact e,L2,_,w4,w5,w6,w7,w8,rfl,rfl,g2,z2,b2⟩) (dA! t n x3 x4 x5 x6 x7 x8) bj! ⟨L,x3,x4,x5,x6,x7,x8,rfl,rfl,g,λc hc=>by lia,hb⟩;have ln:t! (yr n)=n:=by simp[yr]
 rw[ln,_at]at z' b';refine⟨L',y3,y4,y5,y6,y7,y8,?_,g'.bk hn z',l0! (_j (b' i hi j) (pw ?_))⟩
 ·have hi:jV (b9! 1) (dA! t n x3 x4 x5 x6 x7 x8) bj!=gJ! (yr n,[]):=by
   simp only[zeS,zq,zL,vr (ρ:=dA! t n x3 x4 x5 x6 x7 x8) (i:=1) (d:=c! n) rfl,Rb];rw[_g (by lia),_W]
  rw[z06,jP,hi,Rb];exact rR! (by rw[e1,e2])
 ·rcases hn with rfl | rfl | rfl<;>decide
theorem zhG(d:Int)(r:h!):(nq! (mW! (x*d)))=iL (nq! (λx=>x*d)):=by simp[iL]
theorem zqb{a:Nat} (ha:a<aE!) (hr:a<t! ej!) (hl:t! ej!<=100) (b1:∀j,dQ! L a j<2 ^ (2 ^ 16)):qa (gm! x6) bj!=H! (gm! x6) (s++[gc! (scl a L)]):=by
 have c:=comp_map (fi:=zQ (ax! 2 3)) (mp:=fw! 3 2) (fg:=yh 2) (fe:=dz! z8G 2 (co! (gC! 1) u!)) (ρ:=gm! x6) D.int (mW! (x*cd! a)) (λx=>[e! a,ad!,e! x]) ej! (jy (by rw[fb! p!,jx (xM s _) ha];rfl)) (λx _=>rfl) (ac! (by
   have e:=el2 (ρ:=[e! a,ad!,e! x]) (a:=1) (b:=0) (c:=0) (xM s _) rfl rfl rfl ha hr;obtain⟨j,rfl⟩:=zd8 hx;rw[fb! e];exact zhB (b1 j) (b1 a) _)) (_G hl (by decide));rw[zhG]at c;rw[qa,z31 (d:=rL ((ej!).map λx=>x*cd! a)) c p! p! (xM s _) (by lia) (by simp;lia) (z3Y _),z6L,_W,<- _ba];rfl
theorem zr9{a:Nat} (hn:n<=4) (ha:a<n) (hl:aE!=n) (hr:∀r∈L,aK!=n+n) (b1:∀i,i<n->∀j,dQ! L i j<2 ^ (2 ^ 16)): ∃y6 y7 y8,uO (gm! x6) bj!=H! (hL! y6 y7 y8) (s++[gc! (bk a a L)]):=by
 obtain⟨ρ',s',e,y6,y7,y8,e1,e2⟩:=z1K (body:=eO! (yh 7 d ρ s) ((a6! uZ qe uM) ρ' s')) (λj ρ S=>∃y6 y7 y8,ρ=hL! y6 y7 y8/\S=s++[gc! (bk a j L)]) (yr a) 0 (λj x hx ρ S hI=>by
   obtain⟨y6,y7,y8,rfl,rfl⟩:=hI;obtain⟨hj,rfl⟩:=z3x hx;rw[_at];have len:t! (bk a j L)=n:=by rw[z97,hl]
   have get:=zhJ (a:=a) (L:=L) j (by lia) (by lia);have ga:ia! (bk a j L) a=ej!:=by rw[get,_o (by lia)]
   have gj:ia! (bk a j L) j=cE! j:=by rw[get,_o (by lia)]
   have ej:at2 (bk a j L) j a=cd! j:=by rw[at2,gj];rfl
   have la:=hr _ (getD_mem (k:=a) (by lia));have lj:=hr _ (getD_mem (k:=j) (by lia));have f1:uZ (hL! y6 aO! y8) (s++[gc! (bk a j L)])=H! (hL! (dC! ej!) aO! y8) (s++[gc! (bk a j L)]):=by
    rw[uZ,zR,fb! p!,jx (xM s _) (by lia),ga];rfl
   have f2:qe (hL! (dC! ej!) aO! y8) (s++[gc! (bk a j L)])=H! (hL! (dC! ej!) aO! (e! (cd! j))) (s++[gc! (bk a j L)]):=by
    have e:=el2 (s:=s++[gc! (bk a j L)]) (ρ:=hL! (dC! ej!) aO! y8) (a:=2) (b:=7) (c:=3) (xM s _) rfl rfl rfl (by lia) (by rw[gj];lia);rw[qe,zR,e,ej];rfl
   have f3:uM (hL! (dC! ej!) aO! (e! (cd! j))) (s++[gc! (bk a j L)])=H! (hL! (dC! ej!) aO! (e! (cd! j))) (s++[gc! (bk a (j+1) L)]):=by
    have c:=zek (s:=s++[gc! (bk a j L)]) (ρ:=hL! (dC! ej!) aO! (e! (cd! j))) (xM s _) rfl rfl rfl rfl (by lia) (by lia) (b1 j (by lia) a) (ac! (by
     obtain⟨i,rfl⟩:=zd8 hx;exact b1 a ha i));rw[uM,z31 c p! p! (xM s _) (by lia) (by simp;lia) (z3Y _),z6L,_W,<- _ba];simp only[bk,ga,ej]
   refine⟨_,_,?_,dC! ej!,aO!,e! (cd! j),rfl,rfl⟩;rw[vX,Rb];exact g3! (zm f1) (zm f2) f3) (gm! x6) bj! (br! x6 x7 x8 rfl);have ln:t! (yr a)=a:=by simp[yr]
 refine ck! y6 y7 y8 ?_;have hi:jV (b9! 3) (gm! x6) bj!=gJ! (yr a,[]):=by
  simp only[zeS,zq,zL,vr (ρ:=gm! x6) (i:=3) (d:=gd!) rfl,Rb];rw[_g (by lia),_W]
 rw[uO,jP,hi,Rb];refine rR! ?_;rw[e1,e2,ln,_at]
end
def bu:Nat->Nat
 | 0=>6826 | j+1=>2*bu j+1
theorem zfP{i n j:Nat}{x:D}(h:G! (uf (j! i-1) n) j x)(hi:n<=i):j<n/\x=c! (aa! (i-1-j)):=by
 have hj:j<n:=by have:=cV! h;simpa[uf] using this
 refine as! hj ?_;simp only[uf,_D,_aH hj,_ai,_y]at h;rw[<- h];congr 1;lia
section
variable {t:D}{n:Nat}{T L:Tb}{s:Sto}{x3 x4 x5 x6 x7 x8:fN!}
theorem zqJ(hn:be!) (g:Bk n T L n) (hb:∀i,i<n->∀j,dQ! L i j<2 ^ 6826):∃L' y3 y4 y5 y6 y7 y8,jW (dA! t n x3 x4 x5 x6 x7 x8) bj!=H! (dA! t n y3 y4 y5 y6 y7 y8) (s++[rI!])/\Bk n T L' 0:=by
 have n4:n<=4/\2<=n:=by unfold Sz at hn;lia
 obtain⟨ρ',s',e,L',y3,y4,y5,y6,y7,y8,e1,e2,g',b'⟩:=z1K (all:=uf (j! n-1) n) (body:=eO! (yh 3 d ρ s) ((zy qa uO) ρ' s')) (λj ρ S=>∃L' y3 y4 y5 y6 y7 y8,ρ=dA! t n y3 y4 y5 y6 y7 y8/\S=s++[rI!]/\Bk n T L' (n-j)/\∀i,i<n->∀k,dQ! L' i k<2 ^ bu j) (uf (j! n-1) n) 0 (λj x hx ρ S hI=>by
   obtain⟨L1,y3,y4,y5,y6,y7,y8,rfl,rfl,g1,b1⟩:=hI;obtain⟨hj,rfl⟩:=zfP hx am!;rw[_at]at g1 b1;rw[_at];have ha:n-1-j<n:=by lia
   rw[show n-j=n-1-j+1 by lia]at g1;have wide:bu j<=2 ^ 16:=by rcases (show j=0\/j=1\/j=2\/j=3 by lia) with rfl | rfl | rfl | rfl<;>decide
   have bw:∀i,i<n->∀k,dQ! L1 i k<2 ^ (2 ^ 16):=λi hi k=>_j (b1 i hi k) (pw wide);generalize ea:n-1-j=a at *;have la:=g1.rl ha;have f1:=zqb (t:=t) (n:=n) (s:=s) (x4:=y4) (x5:=y5) (x6:=y6) (x7:=y7) (x8:=y8) (L:=L1) (a:=a) (by rw[g1.len];exact ha) (by lia) (by lia) (bw a ha);have sl:t! (Pb.scl a L1)=n:=by simp[Pb.scl,g1.len]
   have sr:∀r∈Pb.scl a L1,aK!=n+n:=dh! (by
    rcases _A hr with h | rfl;·exact g1.row r h
    ·rw[_z,la])
   have d1:=g1.dia a (by lia);obtain⟨z6,z7,z8,f2⟩:=zr9 (t:=t) (n:=n) (s:=s) (x4:=y4) (x5:=y5) (x6:=y6) (x7:=y7) (x8:=y8) (L:=Pb.scl a L1) (a:=a) n4.1 ha sl sr (λi hi k=>by
    rw[zlI g1 ha];split;·rw[_aD,d1,Nat.mul_one];exact bw a ha k
    ·exact bw i hi k);refine⟨_,_,by rw[vX,Rb];exact aJ! (zm f1) f2,bk a a (Pb.scl a L1),_,y4,y5,z6,z7,z8,rfl,rfl,?_,znr g1 ha b1⟩;rw[show n-(j+1)=a by lia];exact g1.step ha) (dA! t n x3 x4 x5 x6 x7 x8) bj! ⟨L,x3,x4,x5,x6,x7,x8,rfl,rfl,g,hb⟩;have ln:t! (uf (j! n-1) n)=n:=by simp[uf]
 rw[ln,_at,_dS]at g';refine⟨L',y3,y4,y5,y6,y7,y8,?_,g'⟩;have hi:zgB (zb (kK! 1 ah!) (cc! ea! ea!)) (dA! t n x3 x4 x5 x6 x7 x8) bj!=gJ! (uf (j! n-1) n,[]):=by
  have c1:eOp z8T r! ah! (dA! t n x3 x4 x5 x6 x7 x8) bj!=gJ! (c! (j! n-1)):=by rw[op2 (x:=c! n) (y:=c! 1) p! (qE ..),zlu]
  have c2:z2H ah! (dA! t n x3 x4 x5 x6 x7 x8) bj!=gJ! (c! (-1)):=rfl;simp only[zof,zq,zL,c1,c2,Rb];rw[_g (by lia)];congr 3;lia
 rw[jW,jP,hi,Rb];exact rR! (by rw[e1,e2])
theorem zlg(T:Tb):∀U:Tb,z4Q nL! (U.map rD)=kv! T U (i8! [rD p.1,rD p.2]):=by induction T with
 | nil=>intro U;simp[z4Q] | cons a T ih=>
  intro U;cases U with
  | nil=>simp[z4Q] | cons b U=>simp only[_u,z4Q,_bo,ih U]
theorem zhR(T:Tb):∀U:Tb,kv! T U (λp=>rL (p.1++p.2))=gc! (oC! (λa b=>a++b) T U):=by induction T with
 | nil=>intro U;simp | cons a T ih=>
  intro U;cases U with
  | nil=>simp | cons b U=>simp only[_bo,_u,_a1,ih U]
theorem zsY(hn:be!) (hT:hf!):z0v [cm! T,bC!,a!,a!,a!,a!,a!,a!,a!] s=H! (dA! (tD T) n a! a! a! a! a! a!) (s++[gc! (lay T)]):=by
 have n4:n<=4:=by unfold Sz at hn;lia
 have pl:ze Pg.xC (b9! 1) [cm! T,bC!,a!,a!,a!,a!,a!,a!,a!] s=he! bB!:=by rw[hb!];exact zeT n4 s
 have hi:z5b (cc! u! (jj! Pg.xC)) [cm! T,bC!,a!,a!,a!,a!,a!,a!,a!] s=k! (kv! T bB! (i8! [rD p.1,rD p.2]),[]):=by
  simp only[z5b,zq,vr (ρ:=[cm! T,bC!,a!,a!,a!,a!,a!,a!,a!]) (i:=0) rfl,pl,Rb];show eG! (z4Q nL! (eP! bB!),[]++[]) s=_;rw[zlg];rfl
 have c:=z7T (mp:=jp!) (fg:=yS 0 1) (fe:=bf! (a8! z2y) (jj! z2y)) (λp:List Int×List Int=>gT! [rD p.1,rD p.2]) (λp=>rL (p.1++p.2)) (λp=>[bv! p.1,bv! p.2]) (pJ! T bB!) hi (λp _=>rfl) (bs! (by
   have e1:ze z2y (b9! 0) [bv! p.1,bv! p.2] s=k! (rL p.1):=by rw[hb!];rfl
   have e2:ze z2y (b9! 1) [bv! p.1,bv! p.2] s=k! (rL p.2):=by rw[hb!];rfl
   obtain⟨m1,m2⟩:=mo!;have l1:=hT.row _ m1;have l2:=(z4q n).row _ m2;rw[op2 e1 e2];simp only[rL,z77];rw[_g (by simp[cap];lia)];simp[iL])) (by simp[cap,hT.len];lia) (by rw[zhR];exact zeO _);rw[zhR]at c;rw[z0v,zR,c];simp only[lay,hT.len];rfl
theorem zqL(r:h!)(n:Nat)(s:Sto):dSl (rL r) (b! (j! n)) a! s=k! (rL mU!):=by
 simp only[rL,dSl,Dd.listOf];rw[z6c];simp[_aU]
theorem zro(hl:aE!=n) (hn:n<=4):jY (dA! t n x3 x4 x5 x6 x7 x8) bj!=gJ! (.rt (tD (sK! n))):=by
 have hi:zQ P! (dA! t n x3 x4 x5 x6 x7 x8) bj!=gJ! (mA!,[(aW!,mA!)]):=by
  rw[jZ,p!,Rb];simp only[xM]
 have c:=zhh (mp:=F! 1) (fg:=yh 1) (fe:=aM! zV (fg! r! u!)) rL (λr=>rD mU!) (λr=>[bC!,dC! r]) L hi (bs! (by
   simp only[_bk]at hp;subst hp;exact xM s _)) (λr _=>rfl) (λr _=>by
   have e:eSl r! (yx u!) zC [bC!,dC! r] bj!=gJ! (rL mU!):=by
    have e1:yx u! [bC!,dC! r] bj!=gJ! (b! (j! n)):=by
     unfold yx;rw[p!];rfl
    simp only[eSl,vr (ρ:=[bC!,dC! r]) (i:=1) rfl,e1,Rb,zC,zqL]
   rw[yF e];rfl) (by simp[cap,hl];lia);rw[jY,yf,yF c];simp[zV,zY,_ag]
theorem zpz(hn:be!) (hT:hf!) (hf:z0R T) (hb:Bd 106 T) (s:Sto):jn [tD T] s=he! (gV! T):=by
 have n4:n<=4:=by unfold Sz at hn;lia
 have key:∀d:D,d=tD T->jn [d] s=he! (gV! T):=il! (by
  have st:zv [jL!,f0!,nz!,e3!,"_law_good","_law_first","_law_head",b8!,lX!] [d]=[i!,a!,a!,a!,a!,a!,a!,a!,a!]:=rfl;have f1:z09 [i!,a!,a!,a!,a!,a!,a!,a!,a!] s=aN! [i!,bC!,a!,a!,a!,a!,a!,a!,a!]:=by
   rw[z09,zR,hb!,hd];simp[yC,zY,hT.len]
  have f2:=zsY (s:=s) hn hT;rw[<- hd]at f2;obtain⟨L1,y3,y4,y5,y6,y7,y8,f3,g1,b1⟩:=zuQ hn (zpX hn hT hf) (zrJ hn hT hb (by decide));obtain⟨L2,z3,z4,z5,z6,z7,z8,f4,g2⟩:=zqJ hn g1 b1;have f5:=zro (t:=d) (s:=s) (x3:=z3) (x4:=z4) (x5:=z5) (x6:=z6) (x7:=z7) (x8:=z8) g2.len n4;rw[zl0 hn hT hf g2]at f5;simp only[jn,z72,Mof,z4I,st,_d,_k,_v];rw[zm f1,zm f2,zm f3,zm f4,f5];simp only;rw[z1F (z9m _)];simp)
 exact key _ rfl
end
theorem run_eq:z0j=z1A:=rfl
noncomputable def L8(a0 a1 a2 a3 a4 a5 a6 a7:fN!):Ev:=[a0,a1,a2,a3,a4,a5,a6,a7]
theorem z6Y{n m:Nat}{r:Rl}{x:h!}{B:Int}{G:i1! Nat x!}{all:x!}{a0 a1 a2 a3 a6 a7:fN!}{S:Sto}(og:okG G all S)(hn:be!)(hB:B<2 ^ m)(hm:m<=hV!)(hx:∀y∈x,y<=B){c:h!}{ls:fr!}(Rn:gk! c):∀(P:Tb)(z:Option D),oL! m c->PI n B P c x-> ∃z',yT G all (eO! (yh 5 d ρ s) (uN ρ' s')) fu! (L8 a0 a1 a2 a3 (cm! P) z a6 a7) S=H! (L8 a0 a1 a2 a3 (cm! ((jT!).foldl jH P)) z' a6 a7) S:=by induction Rn with
 | done he=>intro P z h I;exact⟨z,by simp[zO,yT,og]⟩ | @step v ls he R2 ih=>
  intro P z h I;have tb:=z1D r er! he;have mm:=znz S hn I.tab tb (znU I hB) (zic r h he) (by lia) (by lia);rw[<- zkN]at mm;obtain⟨z',ih⟩:=ih (jH P fX!) kL! (pe! he) (I.step r hx er! he);refine as! z' ?_;have body:uN (L8 a0 a1 a2 a3 (cm! P) kL! a6 a7) S=H! (L8 a0 a1 a2 a3 (cm! (jH P fX!)) kL! a6 a7) S:=by rw[uN,zR,mn!,mm];rfl
  rw[R2.tabs_cons,_u,yT,_g og,vX,Rb];simp only[L8,_L,_F]at body ih ⊢;rw[body,Rb];simp only;rw[ih];rfl
theorem z9x:∀(B:Tb)(k:Nat),z2K k (lY! rD)=(rp! k).map (i8! [c! (aa! p.2),rD p.1])
 | [],k=>rfl | x::B,k=>by simp[z2K,z9x B (k+1)]
theorem ziG:∀{z:List Int} {k j:Nat} {g:Int},j<=k->j0! (k-j)=g->0<g->(∀i,i+j≠k->j0! i=0)->(mY! (z.zipIdx j) (bl! (p.1 > 0))).map (λp=>aP! (aa! p.2))=[aP! k]
 | [],k,j,g,_,h1,h2,_=>by simp at h1;lia | x::z,k,j,g,hj,h1,h2,h3=>by
  rcases _aS hj with q | q
  ·have x0:x=0:=by have:=h3 0 (by lia);simpa using this
   have ih:=ziG (k:=k) (j:=j+1) (by lia) (by rw[show k-j=k-(j+1)+1 by lia]at h1;simpa using h1) h2 (eH! (by have:=h3 (i+1) (by lia);simpa using this));simp only[x0];simpa using ih
  ·subst q;have x1:x=g:=by simpa using h1
   have z0:∀p∈z.zipIdx (j+1),¬ p.1 > 0:=bs! (by
    obtain⟨i,hi,e⟩:=gr! hp;have e1:p.1=j0! i:=by
     rw[<- e,List.getElem_zipIdx];simp only[List.length_zipIdx]at hi;simp[hi]
    rw[e1];have:=h3 (i+1) (by lia);simp at this;simp[this])
   have nil:mY! (z.zipIdx (j+1)) (bl! (p.1 > 0))=[]:=_bl.mpr (bs! (by simpa using z0 p hp))
   simp only[_bH,_az,nil];rw[_g (by simp[x1];exact h2)];rfl
theorem zfe{α:bD!}(f:α->D):∀(B:List α)(j:Nat),(rp! j).map (λp=>f p.1)=lY! f
 | [],_=>rfl | x::B,j=>by simp only[_bH,_u,zfe f B (j+1)]
theorem zbb{xs:x!}{i:Int}{d:D}{s:Sto}(h0:0<=i)(h:G! xs kU! d):c9! af! i s=k! d:=by
 have hj:=cV! h;have e:k5! i=b! kU!:=by
  unfold ixN;rw[_g h0,_g (by lia)]
 simp only[dIx,zY,atI,e,_O,h]
theorem zpS{xs:x!}{l:Nat}{d:D}{s:Sto}(hs:G! s l xs)(h:xs.getLast? = i!):c9! db! (-1) s=k! d:=by
 rw[List.getLast?_eq_getElem?]at h;have hj:=cV! h;have e:k5! (-1)=b! (w!-1):=by
  unfold ixN;rw[_o (by lia),_g (by lia)];congr 1;lia
 simp only[dIx,zY,hs,atI,e,_O,h]
theorem zf5{α:bD!}(f:α->D):∀(B:List α)(k j:Nat),j<=k->(mY! (rp! j) (bl! (aa! p.2≠j! k))).map (λp=>f p.1)=(B.eraseIdx (k-j)).map f
 | [],k,j,_=>by simp | x::B,k,j,hj=>by
  rcases _aS hj with q | q
  ·have ih:=zf5 f B k (j+1) (by lia);simp only[_bH,_az];rw[_g (by simp;lia),show k-j=k-(j+1)+1 by lia];simp only[_u,List.eraseIdx_cons_succ,ih]
  ·subst q;have all:mY! (rp! (j+1)) (bl! (aa! p.2≠j! j))=rp! (j+1):=_bO.mpr (bs! (by
    have:=List.le_snd_of_mem_zipIdx hp;simp;lia))
   simp only[_bH,_az,all,_dS,List.eraseIdx_cons_zero];rw[_o (by simp)];exact zfe f B (j+1)
section
variable {n:Nat}{v:h!}{r:Rl}{ls:fr!}{z:h!}{k:Nat}{B:Tb}{b:h!}
theorem zoV(h:j2!) (S:Sh r n v ls z k B b) (s:Sto):qm [by!,O!] s=bw! (rD b::eP! (B.eraseIdx k)):=by
 have n4:2<=n/\n<=4:=by have:=h.sz;unfold Sz at this;lia
 have key:hU! (d=by!->e=O!->qm [d,e] s=bw! (rD b::eP! (B.eraseIdx k))):=rh! (by
  have st:zv [f1!,bP!,pE!,pF!,"_law_whole_here",jL!,gs!,e3!] [d,e]=L8 i! l! a! a! a! a! a! a!:=rfl;have lr:=zrX r h S.run (by decide) S.len s;rw[<- hd,<- he]at lr;have f1:jT (L8 i! l! a! a! a! a! a! a!) s=H! (L8 i! l! ad! (bG! (aW!+1)) a! a! a! a!) (s++[cS!,fu!]):=by
   rw[jT,zcq,mn!,run_eq,lr,Rb];rfl
  have f2:kj (L8 i! l! ad! (bG! (aW!+1)) a! a! a! a!) (s++[cS!,fu!])=H! (L8 i! l! ad! (bG! (aW!+1)) (cm! bB!) a! a! a!) (s++[cS!,fu!]):=by
   have gl:∀s,yC [e] s=v! n:=λs=>by rw[he];simp[yC,zY,h.len]
   rw[kj,zR,yF (by rw[hb!,gl]),zeT n4.2];rfl
  have g2:G! (s++[cS!,fu!]) (aW!+1) fu!:=zaa.2;obtain⟨b5,lp⟩:=z6Y (G:=[(aW!+1,fu!)]) (by
    intro p hp;simp only[_C,_ck,or_false]at hp;subst hp;exact g2) h.sz (B:=2 ^ 104-1) (by decide) (by decide) (cN! (by have:=h.bd y hy;lia)) S.run bB! none h (PI.start er! (cN! (by have:=h.bd y hy;lia)));have f3:ke (L8 i! l! ad! (bG! (aW!+1)) (cm! bB!) a! a! a!) (s++[cS!,fu!])=H! (L8 i! l! ad! (bG! (aW!+1)) (cm! hN!) b5 a! a!) (s++[cS!,fu!]):=by
   rw[ke,jP,jZ,p!,Rb];simp only[g2,Rb];exact lp
  have f5:jS (L8 i! l! ad! (bG! (aW!+1)) (cm! hN!) b5 a! a!) (s++[cS!,fu!])=H! (L8 i! l! ad! (bG! (aW!+1)) (cm! hN!) b5 (cm! B) a!) (s++[cS!,fu!]):=by
   have mb:=zpz jN! S.ptab S.fair (λx hx y hy=>_j (S.pbd x hx y hy) (pw (by decide))) (s++[cS!,fu!]);rw[<- S.B_]at mb;rw[jS,zR,hb!,mb];rfl
  generalize hA:fu!=A at *;generalize tD hN!=P at *;have g1:G! (s++[cS!,A]) aW! cS!:=zaa.1;have f6:kr (L8 i! l! ad! (bG! (aW!+1)) (b! P) b5 (cm! B) a!) (s++[cS!,A])=H! (L8 i! l! ad! (bG! (aW!+1)) (b! P) b5 (cm! B) bh!) (s++[cS!,A]):=by
   have el:hF! P! ea! (L8 i! l! ad! (bG! (aW!+1)) (b! P) b5 (cm! B) a!) (s++[cS!,A])=.ok (rD z) (s++[cS!,A]):=by
    rw[fb! rfl];exact zpS g1 (by rw[List.getLast?_map,S.last];rfl)
   have c:=xI (mp:=jp!) (fg:=yS 0 1) (ft:=dn! dGt 1 A!) (fe:=u!) (λp:Int×Nat=>gT! (cU! (aa! p.2) p.1)) (λp=>aP! (aa! p.2)) (λp=>bl! (p.1 > 0)) (λp=>[e! (aa! p.2),e! p.1]) (z.zipIdx 0) (z9W el) (λp _=>rfl) (λp _=>by
     refine vo ?_;rw[fb! rfl];simp) (λp _ _=>p!) (by have:=S.lot.len;simp[cap];lia);rw[ziG gL! S.zk S.g0 (eH! (S.zo i (by lia)))]at c;rw[kr,zR,op2 c rfl];rw[show c9! (X! [aP! k]) 0 (s++[cS!,A])=.ok (c! k) (s++[cS!,A]) from rfl];rfl
  have f7:kq (L8 i! l! ad! (bG! (aW!+1)) (b! P) b5 (cm! B) bh!) (s++[cS!,A])=.ok (.rt (X! (rD b::eP! (B.eraseIdx k)))) (s++[cS!,A]):=by
   have e1:qg (a0! (ax! 6 7)) (L8 i! l! ad! (bG! (aW!+1)) (b! P) b5 (cm! B) bh!) (s++[cS!,A])=.ok (X! [rD b]) (s++[cS!,A]):=by
    have e0:hF! (zd 6) (zd 7) (L8 i! l! ad! (bG! (aW!+1)) (b! P) b5 (cm! B) bh!) (s++[cS!,A])=.ok (rD b) (s++[cS!,A]):=by
     rw[fb! p!];exact zbb (by lia) (by rw[_D,_W,S.at_];rfl)
    simp only[z26,zq,zL,e0,Rb];rw[_g (by simp[cap])]
   have c:=xI (fi:=z2M (b9! 6)) (mp:=dE! 7) (fg:=yS 1 2) (ft:=ev! 1 u!) (fe:=P!) (ρ:=L8 i! l! ad! (bG! (aW!+1)) (b! P) b5 (cm! B) bh!) (s:=s++[cS!,A]) (λp:List Int×Nat=>gT! [c! (aa! p.2),rD p.1]) (λp=>rD p.1) (λp=>bl! (aa! p.2≠j! k)) (λp=>[bh!,e! (aa! p.2),bv! p.1]) (rp! 0) (by simp only[z2M,zq,zL,vr (ρ:=L8 i! l! ad! (bG! (aW!+1)) (b! P) b5 (cm! B) bh!) (i:=6) (d:=tD B) rfl,Rb,z9e,tD,z9x]) (λp _=>rfl) (λp _=>by
     refine vo ?_;rw[op2 (x:=c! (aa! p.2)) (y:=c! k) p! p!,z5x]) (λp _ _=>p!) (by have:=S.tab.len;simp[cap];lia);rw[zf5 rD B k 0 gL!,Nat.sub_zero]at c;rw[kq,yf,op2 e1 c,z77,_g (by have:=S.tab.len;have:=List.length_eraseIdx_le B k;simp[cap];lia)];rfl
  simp only[qm,z72,Mof,z3u,st,_d,_k,_v];rw[zm f1,zm f2,zm f3,zm f5,zm f6,f7];simp only;rw[z1F];·simp
  ·exact z9m (b::B.eraseIdx k))
 exact key _ _ rfl rfl
end
end aW
namespace Pg
open L2 Dd Pm
theorem z9U{n m:Nat}{v:h!}(h:fy!):aZ! b5!<2 ^ m/\0<b5!:=by
 obtain⟨x,hx,x0⟩:=h.pos;have d:=z62 x hx;have le:=Int.le_of_dvd x0 d;have nn:=zaj v;have a:=h.abs x hx;have p:b5!≠0:=λq=>by rw[q]at d;have:=Int.zero_dvd.mp d;omega
 omega
section
variable {n:Nat}{v:h!}{r:Rl}{ls:fr!}{z:h!}{k:Nat}{B:Tb}{b:h!}
theorem Sh.b_ok(S:Sh r n v ls z k B b):ps!=n/\(∀y∈b,q8!<2 ^ 318)/\ei! b=b5!:=by
 have hb:b∈B:=_x S.at_;refine⟨S.tab.row b hb,S.bd b hb,?_⟩;have e:bg! (mv B v) k=ei! b:=by simp[mv,List.getD,S.at_]
 rw[<- e,S.mvB,S.zk]
noncomputable def zeX(v:h!):h!:=v.map λx=>x / b5!
end
end Pg
namespace aW
open L2 Dd Pm Pg Pn Po Pb
theorem zeY(s:Sto):vc [.exc hj!] s=k! (aD! aj!):=by kernel_rfl
theorem zgF(s:Sto):vc [.exc hk!] s=k! (aD! cx!):=by kernel_rfl
theorem ziw{w:Int}{d e:D}{s s':Sto}{r:D}(h:xR [e! w,i!,l!,a!] s=bz! (.rt r)):zT [c! w,d,e] s=bz! r:=by
 have st:zv ["_law_way",eq!,d5!,pQ!] [c! w,d,e]=fv! (c! w) d e:=rfl;simp only[zT,Mof,z1c,st,_d,_k,_v,z00,zqN];rw[h]
theorem zdO{w:Int}{d e:D}{s:Sto}{c x:Str}(hc:c∈rsX)(hk:vc [.exc c] s=k! a1!)(h:xR [e! w,i!,l!,a!] s=dW!):zT [c! w,d,e] s=k! a1!:=by
 have st:zv ["_law_way",eq!,d5!,pQ!] [c! w,d,e]=fv! (c! w) d e:=rfl;have e':kZ (g8! (oM! 4) 3 (.exc c)) s=j8! a1!:=by rw[kZ,yf,yF (by rfl),hk];rfl
 simp only[zT,Mof,z1c,st,_d,_k,_v,z00,zqN];rw[h];simp only[_g hc,Nat.reduceAdd];rw[e']
theorem zr4{w:Int}{d e:D}{s:Sto}{x:Str}{X:Mir}(h0:c9! (X! [.fn ng!,.fn nf!]) w s=k! (.fn x))(hx:se! [(ng!,ug),(nf!,wD)]=b! X):xR [e! w,i!,l!,a!] s=D! (X [d,e] s) (λr s1=>I! (.rt r)):=by
 have c2:eM! 2<=cap:=by decide
 rw[xR,yf];simp only[ziL,yO,z26,zq,zL,qE,ym,_c,_e,Rb,_d,_k,_g c2,h0,hx]
theorem ziz{d e:D}{s:Sto}:xR (fp! cu! d l!) s=D! (ug [d,e] s) (λr s1=>I! (.rt r)):=zr4 rfl rfl
theorem zm1{d e:D}{s:Sto}:xR [e! 1,i!,l!,a!] s=D! (wD [d,e] s) (λr s1=>I! (.rt r)):=zr4 rfl rfl
theorem zu3{d e:D}{s:Sto}{c:Str}(h:vy [d] s=dW!):wD [d,e] s=dW!:=by simp[wD,kU,z1T,zv,h]
theorem znN{d e:D}{s:Sto}{c:Str}(h:zA [d,e] s=dW!):xi [d,e] s=dW!:=by
 have:=zg8 h;simp[xi,kU,ku,zv,this]
theorem zgb{d e:D}{s:Sto}{c:Str}(h:zA [d,e] s=dW!):qk [d,e] s=dW!:=by
 have:=znN h;simp[qk,kU,z2o,zv,this]
theorem z99{d e:D}{s:Sto}{c:Str}(h:zA [d,e] s=dW!):ug [d,e] s=dW!:=by
 have:=zgb h;simp[ug,kU,z2s,zv,this]
theorem zaD:LeM xj wD:=mz! (rs! (ru! z2w) jO! (rs! LeS.rfl (r8! jO!) LeS.rfl))
theorem zae:LeM vB z17:=mz! (LeS.seq (ru! zac) jO!)
theorem z8D:LeM qU qR:=mz! (LeS.seq (LeS.set (LeE.call zae)) (rs! (r8! LeS.fNo) jO! jO!))
section
variable {n:Nat}{v:h!}{r:Rl}{ls:fr!}{z:h!}{k:Nat}{B:Tb}{b:h!}
theorem zbf(h:j2!)(S:Sh r n v ls z k B b)(s:Sto):xi [by!,O!] s=he! B:=by
 have w1:=zp1 r h S.run (by decide) S.len s;have w2:=z8D.ok (z9J s jN! S.ptab S.pbd (by decide) S.fair);rw[<- S.B_]at w2;have key:∀d e P T:D,xo [d,e] s=k! P->qR [P] s=k! T->xi [d,e] s=k! T:=λd e P T a1 a2=>by simp[xi,kU,ku,zv,a1,a2]
 exact key _ _ _ _ w1 w2
theorem ziU(h:j2!) (S:Sh r n v ls z k B b) (s:Sto):qk [by!,O!] s=k! (rD b):=by
 have w1:=zbf h S s;have w2:=zdW h S s;have key:hU! (xi [d,e] s=he! B->(∀x∈B,xY [rD x,e] s=v! (ei! x))->qk [d,e] s=k! (rD b)):=λd e a1 a2=>by
  have st:zv do! [d,e]=hB!:=rfl;have c:=xI (fi:=zQ (cM! xi)) (mp:=F! 1) (fg:=yh 1) (ft:=eS! (gz! xY 1 0) A!) (fe:=r!) (ρ:=hB!) rD rD (λx=>cz! (ei! x) 0) (λx=>[l!,bv! x]) B (qV (by rw[mn!];exact a1)) (λx _=>by simp) (ac! (by
    refine vo ?_;rw[op2 (by rw[mn!];exact a2 x hx) rfl,z5x])) (λx _ _=>p!) (by have:=S.tab.len;have:=h.sz;unfold Sz at this;simp[cap];lia);rw[S.fn]at c;simp only[qk,kU,z2o,st,z58,yf];rw[op2 c rfl];have:c9! (X! [rD b]) 0 s=k! (rD b):=kN! (by decide);rw[show List.map rD [b]=[rD b] from rfl,this];rfl
 exact key _ _ w1 w2
theorem zj0(h:j2!) (S:Sh r n v ls z k B b) (s:Sto):ug [by!,O!] s=a7! [c! b5!,rD (zeX v),rD b]:=by
 have w1:=ziU h S s;have w2 := ziO.ok (zkJ er! s);have gb:=z9U h;have key:∀d e f:D,e=O!->qk [d,e] s=k! f->z68 [e] s=v! b5!->ug [d,e] s=a7! [c! b5!,rD (zeX v),f]:=λd e f he a1 a2=>by
  have st:zv [cx!,aj!,cw!,in!] [d,e]=fp! d e a!:=rfl;simp only[ug,kU,z2s,st,_d,_k,_v];rw[zm (ρ':=fv! d e f) (s':=s) (by simp[a1])];rw[zm (ρ':=[i!,l!,b! f,ji!]) (s':=s) (by simp[a2])];have c:=comp_map (fi:=zQ r!) (mp:=F! 3) (fg:=yh 1) (fe:=dz! z45 1 u!) (ρ:=[i!,l!,b! f,ji!]) (s:=s) D.int (mW! (x / b5!)) (λx=>[ji!,e! x]) v (qV (by rw[vr (d:=e) rfl,he])) (λx _=>by simp) (ac! (by rw[op2 (x:=c! x) (y:=c! b5!) p! p!,zao,bS! gb.2 (zsb gb.1 (by decide))])) (by have:=h.toLot.le4;simp[cap];lia);have c2:v.map (mW! (x / b5!))=iL (zeX v):=by simp[zeX,_N]
  rw[c2]at c;have e3:z2C [i!,l!,b! f,ji!] s=j8! (cn! b5! (rD (zeX v)) f):=by
   simp only[z2C,yf];rw[z1Q,zq,vr (d:=c! b5!) rfl,Rb,zq,yF c,z2a,Rb,zq,vr (d:=f) rfl,Rb,zL];simp only[Rb];rw[_g (by simp[cap])];rfl
  rw[ki,e3]
 exact key _ _ _ rfl w1 w2
end
theorem zpV{n:Nat}{v:h!}{r:Rl}{ls:fr!}{z:h!}{k:Nat}{B:Tb}{b:h!}(h:j2!)(S:Sh r n v ls z k B b)(s:Sto):zT [cu!,by!,O!] s=a7! [c! b5!,rD (zeX v),rD b]:= ziw (by rw[ziz,zj0 h S s];rfl)
theorem zqK{d e:D}{b:Bool}{s:Sto}(hc:xj [d,e] s=cb! b):zT [c! 1,d,e] s=cb! b:= ziw (by rw[zm1,zaD.ok hc];rfl)
theorem zin{d e:D}{s:Sto}(hd:vQ [d] s=c6!):zT [cu!,d,e] s=k! (aD! cx!):= zdO (by decide +kernel) (zgF s) (by rw[ziz,z99 (zgv hd)];rfl)
theorem zjO{e:D}{s:Sto}(r:Rl)(he:xl [e] s=c6!):zT [cu!,by!,e] s=k! (aD! aj!):= zdO (by decide +kernel) (zeY s) (by rw[ziz,z99 (zl9 he)];rfl)
theorem zgJ{d e:D}{s:Sto}(hd:xl [d] s=c6!):zT [c! 1,d,e] s=k! (aD! aj!):= zdO (by decide +kernel) (zeY s) (by rw[zm1,zu3 (z3r hd)];rfl)
theorem zoQ{d x:D}{s:Sto}(h:gIs c2! d s=c6!):yd [d,x] s=c6!:=by
 have st:zv [dP!,lX!] [d,x]=h8! d x:=rfl;have e1:eIs c2! u! [i!,fd!] s=c6!:=by rw[zfW,bn!,Rb,h]
 simp only[yd,Mof,uE,st,vM,yf,_d,_k,_v];rw[z9t,e1];rfl
theorem zlW{d:D} {n:Nat} (hk:Kd d) (hn:dv! n) (s:Sto):yd [d,c! n] s=cb! (vD n d):=by cases d with
 | tup ys=>
  have st:zv [dP!,lX!] [n! ys,c! n]=[b! (n! ys),bC!]:=rfl;simp only[yd,Mof,uE,st,vM,yf];by_cases h:cO!=n
  ·have c:=comp_map (fi:=cW!) (mp:=[a!]) (fg:=yh 0) (fe:=a8! yY) (ρ:=[b! (n! ys),bC!]) (s:=s) (λx=>x) (λx=>D.bl (isI x)) (λx=>[fd!]) ys (by rw[List.map_id' ys];exact qV p!) (λx _=>rfl) (ac! (by rw[hb!];exact jE (hk x hx) s)) (by simp[cap];lia);have g:=yF (M:=zgq) c;rw[zab]at g;have h':(j! cO!=n):=by lia
   have e1:eIs c2! u! [b! (n! ys),bC!] s=cA!:=by rw[zfW,bn!];rfl
   have e2:eOp dEq ch! r! [b! (n! ys),bC!] s=cA!:=by simp[yC,zY,h']
   rw[z9t,e1,Rb];simp only[_v];rw[z9t,e2,Rb];simp only[_v];rw[g];simp[vD,h]
  ·have h':¬ (j! cO!=n):=by lia
   simp[gIs,tyD,isT,yC,zY,h',vD,h] | scr _=>exact hk.elim | _=>
  have hd:=hk.ty;first
  | (exfalso;simp[tyD]at hd;done) | exact zoQ rfl
theorem zf3{a0 a1:fN!}{all:x!}(s:Sto):∀(ps:List (Int×Int))(aD:Int)(a b:Option D),(∀p∈ps,aZ! p.1<2 ^ 400/\aZ! p.2<2 ^ 400)-> ∃a' b',yT [] all (eO! (yS 3 4 d ρ s) (z1z ρ' s')) (oF! (i8! (cU! p.1 p.2))) [a0,a1,e! aD,a,b] s=aN! [a0,a1,e! (aD+(oF! (λp=>p.1*p.2)).sum),a',b']
 | [],aD,a,b,_=>⟨a,b,by simp[yT,okG]⟩ | p::ps,aD,a,b,h=>by
  have hp:=h p iA!;have mm:yB (c! p.1) (c! p.2) s=v! (p.1*p.2):=by
   rw[zgN,_g];exact⟨_j hp.1 (pw (by decide)),_j hp.2 (pw (by decide))⟩
  obtain⟨a',b',ih⟩:=zf3 s ps (aD+p.1*p.2) (e! p.1) (e! p.2) λq hq=>h q (.tail _ hq);refine a3! a' b' ?_;have e:z1z [a0,a1,e! aD,e! p.1,e! p.2] s=aN! [a0,a1,e! (aD+p.1*p.2),e! p.1,e! p.2]:=by simp[mm]
  have og:okG [] all s:=by intro p hp;simp at hp
  rw[_u,yT,_g og,z9H,Rb];simp only[_L,_F];rw[e,Rb];simp only[_u,_aN];rw[<- Int.add_assoc];exact ih
theorem zpy{u v:h!}(hu:∀x∈u,de! 400)(hv:∀x∈v,de! 400)(s:Sto):kH [rD u,O!] s=v! (ei! u):=by
 have key:hU! (d=rD u->e=O!->kH [d,e] s=v! (ei! u)):=rh! (by
  have st:zv [eq!,d5!,pB!,q3!,lV!] [d,e]=j5! i! l!:=rfl;have f1:z4U (j5! i! l!) s=aN! [i!,l!,e! 0,a!,a!]:=rfl;have hi:z5b (hY! 0 1) [i!,l!,e! 0,a!,a!] s=k! (kv! u v (i8! (cU! p.1 p.2)),[]):=by
   simp only[z5b,Rb];rw[hd,he];show eG! (z4Q (iL u) b6!,[]++[]) s=_;rw[zip_rows];rfl
  obtain⟨a',b',lp⟩:=zf3 s (pJ! u v) 0 a! a! (bs! ⟨hu _ (mo!).1,hv _ (mo!).2⟩);rw[ziR,_aP]at lp;have f2:z1a [i!,l!,e! 0,a!,a!] s=aN! [i!,l!,e! (ei! u),a',b']:=by
   rw[z1a,jP,hi,Rb];exact lp
  simp only[kH,Mof,z6D,st,_v];rw[zm f1,zm f2];rfl)
 exact key _ _ rfl rfl
theorem zvc{t u:FT}{ρ:Ev}{s:Sto}(h:t ρ s=ky!):fOr t u ρ s=ky!:=by rw[z2u,h];rfl
theorem zsc{t u:FT}{ρ:Ev}{s:Sto}(h:t ρ s=k! q!):fOr t u ρ s=u ρ s:=by rw[z2u,h];rfl
theorem zrW{t:FT}{ρ:Ev}{s:Sto}(h:t ρ s=k! q!):qT t ρ s=ky!:=by rw[vG,h];rfl
section
variable {n:Nat}{v:h!}{s:Sto}
theorem zwJ{d:D} (hv:aQ!) (hk:ha! d) (h3:∀a b c,d≠n! [a,b,c]):xj [O!,d] s=c6!:=by
 have w1:=kJ hv s;have key:∀e:D,yP [e] s=fs!->xj [e,d] s=c6!:=λe a1=>by
  have st:zv [aj!,iW!,in!,lT!,cw!] [e,d]=j5! l! i!:=rfl;simp only[xj,Mof,z0c,st,_d,_k,_v];rw[zm (ρ':=j5! l! i!) (s':=s) (by simp[a1])];have t:fOr (eR! (k6! r!)) (eS! h9! (E! 3)) (j5! l! i!) s=ky!:=by cases d with
   | tup xs=>
    refine aJ! (zsc (zdB (vo (by simp[gIs,tyD,isT])))) (vo ?_);rw[op2 (x:=c! w!) (y:=c! 3) (by rw[hb!];simp[yC,zY]) rfl,z5x];have:w!≠3:=λe=>by match xs,e with | [a,b,c],_=>exact h3 a b c rfl
    rw[_af (show j! w!≠3 by lia)] | _=> first
    | (exfalso;simp[tyD]at hk;done) | exact zvc (zrW (vo (by simp[gIs,tyD,isT])))
  rw[vV (d:=eN!) (s':=s) (by rw[uX,z3f t];rfl)]
 exact key _ w1
theorem zx1{d:D} (hk:ha! d) (h3:∀a b c,d≠n! [a,b,c]) (e:D):ye [e,d] s=c6!:=by
 have st:zv [bP!,dP!] [e,d]=[l!,i!]:=rfl;simp only[ye,Mof,wk,st,_d,_k,_v];rw[vV (d:=eN!) (s':=s) (by
  rw[xL,z3f];·rfl
  cases d with
  | tup xs=>
   refine aJ! (zsc (zdB (vo (by simp[gIs,tyD,isT])))) (zvc (vo ?_));rw[op2 (x:=c! w!) (y:=c! 3) (by rw[hb!];simp[yC,zY]) rfl,z5x];have:w!≠3:=λe=>by match xs,e with | [a,b,c],_=>exact h3 a b c rfl
   rw[_af (show j! w!≠3 by lia)] | _=> first
   | (exfalso;simp[tyD]at hk;done) | exact zvc (zrW (vo (by simp[gIs,tyD,isT]))))]
def zk3:eB! D
 | .int i=>eu! 0 i | _=>false
theorem zsd{a b c r:D} (hv:aQ!) (h:∀e:D,e=O!->zy xZ uS [l!,b! (n! [a,b,c]),b! a,b! b,b! c] s=j8! r):xj [O!,n! [a,b,c]] s=k! r:=by
 have w1:=kJ hv s;have key:∀e d:D,e=O!->d=n! [a,b,c]->yP [e] s=fs!->xj [e,d] s=k! r:=λe d he hd a1=>by
  have st:zv [aj!,iW!,in!,lT!,cw!] [e,d]=j5! l! i!:=rfl;simp only[xj,Mof,z0c,st,_d,_k,_v];rw[zm (ρ':=j5! l! i!) (s':=s) (by simp[a1])];rw[zm (ρ':=j5! l! i!) (s':=s) (by
   rw[uX,zdz];·rfl
   ·refine zrA (zdB (vo ?_)) (vo ?_);·rw[zfW,vr (d:=d) rfl,Rb,hd];simp[gIs,tyD,isT]
    ·rw[op2 (x:=c! 3) (y:=c! 3) (by rw[yF (x:=d) p!,hd];simp[yC,zY]) rfl,z5x];simp)];rw[zm (ρ':=[l!,i!,b! a,b! b,b! c]) (s':=s) (by rw[z1X,zcq,vr (d:=d) rfl,Rb,hd];simp)];have:=h e he;rw[<- hd]at this;rw[this]
 exact key _ _ rfl rfl w1
theorem zez{a b c e d:D}{x:Bool}(he:e=O!)(hv:aQ!)(ha:ha! a)(hb:Kd b)(hx:x=!(zk3 a&&vD n b)): (js! (e5! vF 2) (fOr (dn! dLe 2 A!) (eR! (es! zN bp! ch!)))) [l!,i!,b! a,b! b,b! c] s=k! x:=by
 subst hx;have t1:tOf (e5! vF 2) [l!,i!,b! a,b! b,b! c] s=k! (isI a):=vo (by rw[hb!];exact z84 ha s);have t3:tOf (es! zN bp! ch!) [l!,i!,b! a,b! b,b! c] s=k! (vD n b):=by
  refine vo ?_;rw[call2 (y:=c! n) p! (by rw[hb!,he];simp[yC,zY,hv.len])];exact z2O hb (by have:=hv.le4;have:=hv.len;lia) s
 cases a with
 | int i=>
  rw[z2u,vG,t1];simp only[isI,zk3,Rb,Bool.not_true,_cV,_aV];rw[z2u,vo (fb! (qE ..) |>.trans (zu2 ..)),Rb,vG,t3];by_cases h:i<=0;·rw[_af h,gD!,_U (by lia)];rfl
  ·rw[_U h,_o (by simp),_af (by lia)];rfl | _=>rw[z2u,vG,t1];rfl
theorem zhF{c e d:D} {g:Int} {u:h!} {y:Bool} (he:e=O!) (hv:aQ!) (hg:iZ!<2 ^ 400) (hu:∀x∈u,de! 400) (hl:pH!<=100) (hc:ua [e,c,c! g] s=cb! y): uS [l!,i!,e! g,bv! u,b! c] s=j8! (.bl (bl! (nD! (λx=>g*x)=v)&&y)):=by
 have cm:=comp_map (fi:=kO!) (mp:=F! 2) (fg:=yh 1) (fe:=fS! 0 r!) (ρ:=[l!,i!,e! g,bv! u,b! c]) (s:=s) D.int (mW! (g*x)) (λx=>[e! g,e! x]) u (qV p!) (λx _=>by simp) (ac! (by rw[op2 (x:=c! g) (y:=c! x) p! p!,z0B s hg (by decide) (hu x hx) (by decide)])) (by simp[cap];lia);have m2:nD! (mW! (g*x))=iL (nD! (λx=>g*x)):=by simp[iL]
 rw[m2]at cm;simp only[uS,yf,z9t];rw[op2 (x:=rD (nD! (λx=>g*x))) (y:=O!) (by rw[yF cm];exact z2a _ s) (by rw[p!,he]),Pr.znI,Rb];by_cases h:nD! (λx=>g*x)=v
 ·rw[_af h];simp only;rw[zfU p! p! p!,hc];simp
 ·rw[_U h];rfl
theorem zps{a b c e d:D} {x:Bool} (hd:d=n! [a,b,c]) (ha:ha! a) (hx:x=! zk3 a): (js! (k6! r!) (fOr (eS! h9! (E! 3)) (js! (aM! Pg.yY (hG! 1)) (hs! dLt (hG! 1) ah!)))) [l!,i!] s=k! x:=by
 subst hx;have i0:hF! r! A! [l!,i!] s=k! a:=by rw[fb! (qE ..),hd];exact zbb (by decide) rfl
 refine g3! (zsc (zdB (vo ?_))) (zsc (vo ?_)) ?_;·rw[zfW,vr (d:=d) rfl,Rb,hd];simp[gIs,tyD,isT]
 ·rw[op2 (x:=c! 3) (y:=c! 3) (by rw[yF (x:=d) p!,hd];simp[yC,zY]) rfl,z5x];simp
 ·have t1:tOf (aM! Pg.yY (hG! 1)) [l!,i!] s=k! (isI a):=vo (by rw[yF i0];exact jE ha s);cases a with
  | int i=>
   rw[z2u,vG,t1];simp only[isI,zk3,Rb,Bool.not_true,_cV,_aV];rw[vo (op2 i0 (qE ..) |>.trans (zt1 ..))];by_cases h:i<1;·rw[_af h,_U (by lia)];rfl
   ·rw[_U h,_af (by lia)];rfl | _=>rw[z2u,vG,t1];rfl
theorem zdL{a b c e d:D}(he:e=O!)(hd:d=n! [a,b,c])(hv:aQ!)(hb:Kd b)(hc:Kd c): (js! (es! pR! (di! 1 ah!) ch!) (eR! (es! pR! (di! 1 (E! 2)) ch!))) [l!,i!] s=k! (!(vD n b&&vD n c)):=by
 have n1:dv! n:=by have:=hv.le4;have:=hv.len;lia
 have i1:hF! r! ah! [l!,i!] s=k! b:=by rw[fb! (qE ..),hd];exact zbb (by decide) rfl
 have i2:hF! r! (E! 2) [l!,i!] s=k! c:=by rw[fb! (qE ..),hd];exact zbb (by decide) rfl
 have gl:ze yC (b9! 0) [l!,i!] s=v! n:=by rw[hb!,he];simp[yC,zY,hv.len]
 have t1:tOf (es! pR! (di! 1 ah!) ch!) [l!,i!] s=k! (vD n b):=vo (by rw[call2 i1 gl];exact zlW hb n1 s);have t2:tOf (es! pR! (di! 1 (E! 2)) ch!) [l!,i!] s=k! (vD n c):=vo (by rw[call2 i2 gl];exact zlW hc n1 s);rw[z2u,vG,t1];simp only[Rb,vG,t2];cases vD n b<;>cases vD n c<;>rfl
theorem zj4(g:Int):∀(u v:List Int),pH!=z!->((mY! (pJ! u v) (cz! (p.1*g) p.2)).isEmpty=bl! (nD! (λx=>g*x)=v))
 | [],[],_=>rfl | x::u,y::v,h=>by
  have ih:=zj4 g u v (by simpa using h);simp only[_bo,_az,_u,_cA];by_cases e:x*g=y
  ·rw[_o (by simp[e]),ih];simp[<- e,_cI]
  ·rw[_g (by simp[e])];have:¬ g*x=y:=by rw[_cI];exact e
   simp[this] | [],_::_,h=>by simp at h | _::_,[],h=>by simp at h
theorem zs2{c e d:D} {g:Int} {u:h!} (he:e=O!) (hd:d=cn! g (rD u) c) (hv:aQ!) (hg:iZ!<2 ^ 400) (hu:∀x∈u,de! 400) (hl:pH!=z!): tOf (eOp dNe (zt (z5b (ip! (di! 1 ah!) 0)) (dE! 1) (yS 1 2) (eS! (fS! 1 (hG! 0)) P!) ah!) (qg zi)) [l!,i!] s=k! (! bl! (nD! (λx=>g*x)=v)):=by
 have i1:hF! r! ah! [l!,i!] s=k! (rD u):=by rw[fb! (qE ..),hd];exact zbb (by decide) rfl
 have hi:z5b (ip! (di! 1 ah!) 0) [l!,i!] s=k! (kv! u v (i8! (cU! p.1 p.2)),[]):=by
  unfold z5b;rw[zq,i1,Rb,zq,vr (d:=e) rfl,Rb,zL];simp only[Rb];rw[he];show eG! (z4Q (iL u) b6!,[]++[]) s=_;rw[zip_rows];rfl
 have cg:=xI (mp:=dE! 1) (fg:=yS 1 2) (ft:=eS! (fS! 1 (hG! 0)) P!) (fe:=ah!) (pK! (gT! (cU! p.1 p.2))) (λ_=>aP! 1) (λp=>cz! (p.1*g) p.2) (λp=>[i!,e! p.1,e! p.2]) (pJ! u v) hi (λp _=>by rfl) (bs! (by
  refine vo ?_;have i0:hF! u! A! [i!,e! p.1,e! p.2] s=v! g:=by rw[fb! (qE ..),hd];exact zbb (by decide) rfl
  rw[op2 (x:=c! (p.1*g)) (y:=c! p.2) (by rw[fb! i0,z0B s (hu _ (mo!).1) (by decide) hg (by decide)]) p!,z5x])) (λp _ _=>rfl) (by have:=hv.le4;simp[cap];lia);have ok:okD 2 (X! ((mY! (pJ! u v) (cz! (p.1*g) p.2)).map λ_=>aP! 1))=d!:=by
  simp only[okD,_Q];intro x hx;obtain⟨r,_,rfl⟩:=gB!;rfl
 refine vo ?_;rw[op2 cg (by simp;rfl),ne_nil ok (by decide),List.isEmpty_map,zj4 g u v hl]
theorem ziF{m:Nat}{b:D}(hb:Bn m b)(q:vD n b=d!):∃u:List Int,b=rD u/\pH!=n/\∀x∈u,de! m:=by cases b with
 | tup ys=>
  simp only[vD,_S,_aA]at q;obtain⟨u,rfl⟩:=all_ints q.2;exact mS! u (by simpa using q.1) (ac! (hb.bd (iL u) x rfl (_q.mpr ⟨x,hx,rfl⟩))) | _=>simp[vD]at q
theorem znD{c e:D}{g:D}(he:e=O!)(hv:aQ!)(hc:Kd c)(q:vD n c=q!):ua [e,c,g] s=c6!:=by
 have a1:=z2O (n:=n) hc (by have:=hv.le4;have:=hv.len;lia) s;rw[q]at a1;have gl:yC [O!] s=v! n:=by simp[yC,zY,hv.len]
 rw[<- he]at gl;simp[ua,Mof,z3U,zv,a1,gl]
theorem zmT{d:D} (hv:j2!) (ht:Tn 400 d) (hb:∀a b c i,d=n! [a,b,c]->a=U!->eF!<2 ^ 400) (s:Sto):∃x,xj [O!,d] s=cb! x/\ye [O!,d] s=cb! x:=by
 by_cases h3:∃a b c,d=n! [a,b,c]
 ·obtain⟨a,b,c,rfl⟩:=h3;have ka:ha! a:=(ht.it _ rfl a iA!).kd.ty;have kb:=ht.it _ rfl b (.tail _ iA!);have kc:=ht.it _ rfl c (.tail _ (.tail _ iA!));have ia:∀i,a=U!->eF!<2 ^ 400:=λi e=>hb a b c i rfl e;have st:∀e d:D,zv [bP!,dP!] [e,d]=[l!,i!]:=λ_ _=>rfl;have iR:∀{r:D},(∀e d:D,e=O!->d=n! [a,b,c]->zy xc (zy xJ vn) [l!,i!] s=j8! r)->isI a=d!->(∀i,a=U!->0<i)->ye [O!,n! [a,b,c]] s=k! r:=λ{r} h i1 i2=>by
   have key:∀e d:D,e=O!->d=n! [a,b,c]->ye [e,d] s=k! r:=λe d he hd=>by
    simp only[ye,Mof,wk,st,_d,_k,_v];rw[zm (ρ':=[l!,i!]) (s':=s) (by
     rw[xL,zdz];·rfl
     ·refine zps hd ka ?_;cases a with
      | int i=>simp[zk3,i2 i rfl] | _=>simp[isI]at i1),h e d he hd]
   exact key _ _ rfl rfl
  by_cases good:isI a=d!/\∀i,a=U!->0<i
  ·obtain⟨g1,g2⟩:=good;obtain⟨g,rfl⟩:∃g,a=c! g:=by cases a<;>first | exact cl! _ | simp[isI]at g1
   have g0:=g2 g rfl;have gb:=ia g rfl;cases qb:vD n b with
   | false=> refine⟨q!,zsd i0! λe he=>vV (by rw[xZ,z3f (zez he i0! rfl pW! (by simp[zk3,qb]))];rfl),iR (λe d he hd=>vV (by rw[xc,z3f (by rw[zdL he hd i0! pW! kc.kd,qb];rfl)];rfl)) rfl g2⟩ | true=>
    obtain⟨u,rfl,ul,ub⟩:=ziF kb qb;cases qc:vD n c with
    | false=> refine⟨q!,zsd i0! λe he=>aJ! (zm (by rw[xZ,zdz (zez he i0! rfl pW! (by simp[zk3,qb,g0]))];rfl)) (by rw[zhF (y:=false) he hv.toLot gb ub (by have:=hv.le4;have:=hv.len;lia) (znD he i0! kc.kd qc),_cZ]),iR (λe d he hd=>vV (by rw[xc,z3f (by rw[zdL he hd i0! pW! kc.kd,qc,_cZ];rfl)];rfl)) rfl g2⟩ | true=>
     obtain⟨w,rfl,wl,wb⟩:=ziF kc qc;have v4:∀x∈v,de! 400:=ac! (_j (hv.abs x hx) (pw (by decide)));refine⟨bl! (nD! (λx=>g*x)=v)&&bl! (ei! w=g),zsd i0! λe he=>aJ! (zm (by rw[xZ,zdz (zez he i0! rfl pW! (by simp[zk3,qb,g0]))];rfl)) (by rw[zhF he i0! gb ub (by have:=hv.le4;have:=hv.len;lia) (by rw[he];exact zhu hv wl wb (by decide) (by decide) s)]),iR (λe d he hd=>?_) rfl g2⟩;rw[zm (ρ':=[l!,i!]) (s':=s) (by rw[xc,zdz (by rw[zdL he hd i0! pW! kc.kd,qb,qc];rfl)];rfl)];have t5:=zs2 he hd hv.toLot gb ub (by rw[ul,hv.len]) (s:=s);by_cases q:nD! (λx=>g*x)=v
     ·rw[_af q]at t5 ⊢;rw[zm (ρ':=[l!,i!]) (s':=s) (by rw[xJ,zdz t5];rfl),vn,yf];have i0:hF! r! A! [l!,i!] s=v! g:=by rw[fb! (qE ..),hd];exact zbb (by decide) rfl
      have i2:hF! r! (E! 2) [l!,i!] s=k! (rD w):=by rw[fb! (qE ..),hd];exact zbb (by decide) rfl
      rw[op2 (x:=c! (ei! w)) (by rw[call2 i2 p!,he];exact zpy wb v4 s) i0,zbK];rfl
     ·rw[_U q]at t5 ⊢;rw[vV (d:=eN!) (s':=s) (by rw[xJ,z3f t5];rfl)];rfl
  ·have bad:zk3 a=q!:=by cases a with
    | int i=>
     have:¬ 0<i:=λh=>good (g4! (λj e=>by cases e;exact h));simp[zk3,this] | _=>rfl
   refine⟨q!,zsd i0! λe he=>vV (by rw[xZ,z3f (zez he i0! ka pW! (by rw[bad];rfl))];rfl),?_⟩;have key:∀e d:D,e=O!->d=n! [a,b,c]->ye [e,d] s=c6!:=λe d he hd=>by
    simp only[ye,Mof,wk,st,_d,_k,_v];rw[vV (d:=eN!) (s':=s) (by rw[xL,z3f (zps hd ka (by rw[bad];rfl))];rfl)]
   exact key _ _ rfl rfl
 ·have dZ:∀a b c,d≠n! [a,b,c]:=λa b c e=>h3 ⟨a,b,c,e⟩;exact⟨q!,zwJ i0! ht.ty dZ,zx1 ht.ty dZ _⟩
end
theorem opS{o:D->D->bi!}{f g:FE}{ρ:Ev}{x y:D}{s s1 s2:Sto}(h:ay!=I! x)(h2:g ρ s1=ba! y):eOp o f g ρ s=o x y s2:=by rw[yO,h,Rb,h2,Rb]
theorem zk1{f g k:FE}{ρ:Ev}{x y z:D}{s s1 s2 s3:Sto}(h:ay!=I! x)(h2:g ρ s1=ba! y)(h3:k ρ s2=ge! z):vj (zb f (cc! g k)) ρ s=ge! (n! [x,y,z]):=by
 rw[z1Q,zq,h,Rb,zq,h2,Rb,zq,h3,Rb,zL];simp only[Rb];rw[_g (by simp[cap])]
theorem zwK{f:FE}{ρ:Ev}{x:D}{s s1:Sto}(h:ay!=I! x):qg (a0! f) ρ s=I! (X! [x]):=by
 rw[z26,zq,h,Rb,zL];simp only[Rb];rw[_g (by simp[cap])]
theorem zws{f g k:FE}{ρ:Ev}{x y z:D}{s s1 s2 s3:Sto}(h:ay!=I! x)(h2:g ρ s1=ba! y)(h3:k ρ s2=ge! z):qg (zb f (cc! g k)) ρ s=ge! (X! [x,y,z]):=by
 rw[z26,zq,h,Rb,zq,h2,Rb,zq,h3,Rb,zL];simp only[Rb];rw[_g (by simp[cap])]
theorem zwX{f g k j:FE}{ρ:Ev}{x y z w:D}{s:Sto}(h:ay!=k! x)(h2:g ρ s=k! y)(h3:k ρ s=k! z)(h4:j ρ s=k! w):qg (dY! f g k j zi) ρ s=bw! [x,y,z,w]:=by
 rw[z26,zq,h,Rb,zq,h2,Rb,zq,h3,Rb,zq,h4,Rb,zL];simp only[Rb];rw[_g (by simp[cap])]
theorem zwf{f g k j i:FE}{ρ:Ev}{x y z w t:D}{s s1:Sto}(h:ay!=k! x)(h2:g ρ s=k! y)(h3:k ρ s=k! z)(h4:j ρ s=k! w)(h5:i ρ s=I! t):qg (dY! f g k j (a0! i)) ρ s=I! (X! [x,y,z,w,t]):=by
 rw[z26,zq,h,Rb,zq,h2,Rb,zq,h3,Rb,zq,h4,Rb,zq,h5,Rb,zL];simp only[Rb];rw[_g (by simp[cap])]
structure Th(d:D):g! where
 tn:Tn 400 d
 hd:∀a b c i,d=n! [a,b,c]->a=U!->eF!<2 ^ 400
def It(x:D):g!:=Bn 400 x/\∀i,x=U!->eF!<2 ^ 400
theorem It.int{m:Nat}{i:Int}(h:eF!<2 ^ m)(hm:m<=400):It U!:=⟨rD! (by intro xs e;cases e),λj e=>by cases e;exact _j h (pw hm)⟩
theorem Bn.row4{m:Nat}{r:h!}(h:∀x∈r,de! m)(hm:m<=400):Bn 400 (rD r):=Bn.row (ac! (_j (h x hx) (pw hm)))
theorem Bn.lst{xs:x!}:Bn 400 bx!:=rD! (by intro xs e;cases e)
theorem Th.tup{x:D}{xs:x!}(h:It x)(h2:∀y∈xs,Bn 400 y):Th (n! (x::xs)):=⟨Tn.tup (cN! (by
 rcases ep! hy with rfl | hy;·exact h.1
 ·exact h2 y hy)),λa b c i e e2=>by cases e;exact h.2 i e2⟩
theorem Th.three{a b c:D}(ha:It a)(hb:Bn 400 b)(hc:Bn 400 c):Th (n! [a,b,c]):=Th.tup ha (ac! (by
 simp only[_C,_ck,or_false]at hx;rcases hx with rfl | rfl<;>assumption))
theorem Th.other{d:D}(h:ha! d)(hn:∀xs,d≠af!):Th d:=⟨Tn.other h hn,λa b c i e=>bO! e (hn _)⟩
theorem zrp{d:D}(h:d∈zgr):Th d:=by
 have b:=zmP (m:=400) h (by decide);have p2:2 ^ 2<=2 ^ 400:=pw (by decide);refine⟨⟨b.kd.ty,λxs e x hx=>?_⟩,λx y z i e _=>?_⟩
 ·subst e;simp[zgr]at h;rcases h with rfl | rfl | rfl | rfl | rfl;·simp at hx
  all_goals
   simp at hx;rcases hx with rfl | rfl;all_goals first | exact rD! (by intro xs e;cases e) | exact iY! (by first | (simp[tyD];done) | (simp[tyD];lia))
 ·subst e;simp[zgr]at h
section
variable {n:Nat}{v:h!}{s:Sto}{l:Nat}
theorem bgs(g:Int):aZ! (j! 1)<=2*iZ!+1/\aZ! (2*g)<=2*iZ!+1/\aZ! (0-g)<=2*iZ!+1/\aZ! (j! 0)<=2*iZ!+1/\iZ!<=2*iZ!+1/\aZ! (g+1)<=2*iZ!+1:=by
 have l0:iZ!<=2*iZ!:=Nat.le_mul_of_pos_left _ (by decide);have l:=_bx l0;exact⟨Nat.le_add_left _ _,by rw[_aD];exact _cq _,by rwa [Int.zero_sub,Int.natAbs_neg],gL!,l,_G (_dg _ _) (Nat.succ_le_succ l0)⟩
theorem ztJ{i g:Int}(h:eF!<=2*iZ!+1)(hg:iZ!<2 ^ 104):eF!<2 ^ 106:=by
 have:2 ^ 106=4*2 ^ 104:=by decide
 omega
theorem z8j{g:Int} {q w:h!} (h:Pot s l) (hv:∀x∈v,de! 104) (hg:iZ!<2 ^ 104) (hq:∀x∈q,de! 104) (q1:1<=q.length) (q4:q.length<=4) (hw:∀x∈w,de! 318) (w1:1<=pO!) (w4:pO!<=4): ∃d s',yq [db!,O!,n! [c! g,rD q,rD w]] s=bz! d/\Th d/\vK s s' l:=by
 have key:∀V T Q W:D,V=O!->Q=rD q->W=rD w->T=cn! g Q W->∃d s',yq [db!,V,T] s=bz! d/\Th d/\vK s s' l:=λV T Q W hV hQ hW hT=>by
  have st:zv [dy!,bP!,dP!,oG!,ny!,lV!,q6!,"_law_wide",hp!] [db!,V,T]=[J!,jm!,ex!,a!,a!,a!,a!,a!,a!]:=rfl;have f1:wy [J!,jm!,ex!,a!,a!,a!,a!,a!,a!] s=aN! [J!,jm!,ex!,e! g,kH!,kI!,a!,a!,a!]:=by rw[wy,zcq,vr (d:=T) rfl,Rb,hT];simp
  let L9:x!:=[c! 1,c! (2*g),c! (0-g),cu!,eQ!,aA!,aD! "1",n! [c! g],c! (g+1)];have bg:∀i:Int,eF!<=2*iZ!+1->It U!:=eH! (by exact It.int (m:=106) (ztJ hi hg) (by decide))
  obtain⟨z1,z2,z3,z4,z5,z6⟩:=bgs g;have hL:∀e∈L9,It e:= c4! (bg _ z1) (bg _ z2) (c4! (bg _ z3) (bg _ z4) (c4! ⟨rD! (nofun),nofun⟩ ⟨rD! (nofun),nofun⟩ (c4! ⟨rD! (nofun),nofun⟩ ⟨iY! (m6! (g4! (λi e=>(bg g z5).2 i e))),nofun⟩ (m6! (bg _ z6)))));let ρ1:Ev:=[J!,jm!,ex!,e! g,kH!,kI!,a!,a!,a!];have g2:eOp yB (E! 2) bp! ρ1 s=v! (2*g):=by rw[op2 (qE ..) p!,z0B (m:=2) (k:=104) s (by decide) (by decide) hg (by decide)]
  have l9:qg (dY! ah! (gF! (E! 2) bp!) (eOp z8T A! bp!) A! (dY! (eC eQ!) (eC aA!) (bL! "1") (vj (b9! 3)) (a0! (fQ! 3)))) ρ1 s=bw! L9:=by
   rw[z26,zq,qE,Rb,zq,g2,Rb];rfl
  obtain⟨r1,s1,e1,a1,b1,d1⟩:=vC (f:=u!) (g:=E! 9) (far:=9) (ρ:=ρ1) h (by decide) (kL (by decide)) (by rfl) (by rfl);have l5:r1.toNat<L9.length:=by simp[L9];lia
  have l6:=wO (xs:=L9) (d:=L9[r1.toNat]) (s:=s1) a1 (by simp[l5]);have he:=hL _ (_J l5);generalize L9[r1.toNat]=e at l6 he;have f2:wG ρ1 s=gH! [J!,jm!,ex!,e! g,kH!,kI!,l!,a!,a!]:=by rw[wG,zR,opS l9 e1,l6];rfl
  let ρ2:Ev:=[J!,jm!,ex!,e! g,kH!,kI!,l!,a!,a!];have cm:=comp_map (fi:=zQ (zd 5)) (mp:=[a!]) (fg:=yh 0) (fe:=gF! (E! 2) u!) (ρ:=ρ2) (s:=s1) D.int (mW! (2*x)) (λx=>[e! x]) w (qV (by rw[vr (d:=W) rfl,hW])) (λx _=>by simp) (ac! (by rw[op2 (qE ..) p!,z0B (m:=2) (k:=318) s1 (by decide) (by decide) (hw x hx) (by decide)])) (by simp[cap];lia);rw[show w.map (mW! (2*x))=iL (w.map λx=>2*x) by simp[iL]]at cm;have f3:wx ρ2 s1=gH! [J!,jm!,ex!,e! g,kH!,kI!,l!,bv! (w.map λx=>2*x),a!]:=by rw[wx,zR,yF cm,z2a];rfl
  have hX:∀x∈w.map (λx=>2*x),de! 320:=ac! (by
   obtain⟨y,hy,rfl⟩:=gB!;have:=hw y hy;have:2 ^ 320=4*2 ^ 318:=by decide
   lia)
  generalize w.map (λx=>2*x)=w2 at f3 hX;obtain⟨d2,s2,e2,k2,l7⟩:=zj7 (l:=l) (v:=q) (m:=104) d1.pot hq (by decide) q1 q4;obtain⟨d3,s3,e3,k3,l8⟩:=zj7 (l:=l) (v:=w) (m:=318) l7.pot hw (by decide) w1 w4;obtain⟨o,s4,e4,ho,ma⟩:=zrs (l:=l) l8.pot;let ρ3:Ev:=[J!,jm!,ex!,e! g,kH!,kI!,l!,bv! w2,a!];have f4:wu ρ3 s1=H! [J!,jm!,ex!,e! g,kH!,kI!,l!,bv! w2,aL! [n! [e,Q,W],cn! g d2 W,cn! g Q d3]] s3:=by
   rw[wu,zR,zws (zk1 p! p! p!) (zk1 p! (by rw[mn!,hQ,e2]) p!) (zk1 p! p! (by rw[mn!,hW,e3]))];rfl
  let ρ4:Ev:=[J!,jm!,ex!,e! g,kH!,kI!,l!,bv! w2,aL! [n! [e,Q,W],cn! g d2 W,cn! g Q d3]];have g4:eOp yB (E! 2) bp! ρ4 s3=ge! (c! (2*g)):=by rw[op2 (qE ..) p!,z0B (m:=2) (k:=104) s3 (by decide) (by decide) hg (by decide)]
  have f5:wC ρ4 s3=H! [J!,jm!,ex!,e! g,kH!,kI!,l!,bv! w2,aL! ([n! [e,Q,W],cn! g d2 W,cn! g Q d3]++[cn! g W Q,cn! 1 V W,cn! g V W,cn! (2*g) Q (rD w2)])] s3:=by
   rw[wC,zR,fb! (zwX (zk1 p! p! p!) (zk1 (qE ..) p! p!) (zk1 p! p! p!) (zk1 g4 p! p!)),z77,_g (by simp[cap])];rfl
  let ρ5:Ev:=[J!,jm!,ex!,e! g,kH!,kI!,l!,bv! w2,aL! ([n! [e,Q,W],cn! g d2 W,cn! g Q d3]++[cn! g W Q,cn! 1 V W,cn! g V W,cn! (2*g) Q (rD w2)])];have lT:z2y [T] s3=ge! (X! [c! g,Q,W]):=by rw[hT];rfl
  have lQ:z2y [Q] s3=ge! (bN! q):=by rw[hQ];rfl
  have sT:eSl P! zC (yx (E! 2)) ρ5 s3=ge! (n! [c! g,Q]):=by
   have t2:=z2p [c! g,Q,W] 2 s3;rw[<- hT]at t2;simp only[zaK,jo,z1i,qE,vr (ρ:=ρ5) (i:=2) (d:=T) rfl,Rb];exact t2
  have aT:eOp xf P! (vj (a0! A!)) ρ5 s3=ge! (n! [c! g,Q,W,cu!]):=by
   rw[op2 (x:=T) p! (show vj (a0! A!) ρ5 s3=ge! (n! [cu!]) from rfl),hT,z3a,_g (by simp[cap])];rfl
  have f6:wz ρ5 s3=H! [J!,jm!,ex!,e! g,kH!,kI!,l!,bv! w2,aL! (([n! [e,Q,W],cn! g d2 W,cn! g Q d3]++[cn! g W Q,cn! 1 V W,cn! g V W,cn! (2*g) Q (rD w2)])++[X! [c! g,Q,W],cn! g (bN! q) W,n! [c! g,Q],n! [c! g,Q,W,cu!],o])] s4:=by
   rw[wz,zR,opS p! (zwf (by rw[hb!];exact lT) (zk1 p! (by rw[hb!];exact lQ) p!) sT aT (by rw[hb!];exact e4)),z77,_g (by simp[cap])];rfl
  generalize hM:([n! [e,Q,W],cn! g d2 W,cn! g Q d3]++[cn! g W Q,cn! 1 V W,cn! g V W,cn! (2*g) Q (rD w2)])++[X! [c! g,Q,W],cn! g (bN! q) W,n! [c! g,Q],n! [c! g,Q,W,cu!],o]=dm at f6;obtain⟨r4,s5,e5,a4,b4,d5⟩:=vC (f:=u!) (g:=E! 12) (far:=12) (ρ:=[J!,jm!,ex!,e! g,kH!,kI!,l!,bv! w2,aL! dm]) ma.pot (by decide) (kL (by decide)) (by rfl) (by rfl);have fK:r4.toNat<dm.length:=by rw[<- hM];simp;lia
  have iK:=wO (xs:=dm) (d:=dm[r4.toNat]) (s:=s5) a4 (by simp[fK]);have f7:wA [J!,jm!,ex!,e! g,kH!,kI!,l!,bv! w2,aL! dm] s4=.ok (.rt dm[r4.toNat]) s5:=by rw[wA,yf,opS p! e5,iK];rfl
  have kQ:Bn 400 Q:=by rw[hQ];exact Bn.row4 hq (by decide)
  have kW:Bn 400 W:=by rw[hW];exact Bn.row4 hw (by decide)
  have kV:Bn 400 V:=by rw[hV];exact Bn.row4 hv (by decide)
  have kX:Bn 400 (rD w2):=Bn.row4 hX (by decide);have kg:=bg g z5;have k0:=(bg 0 z4).1;have th:∀d∈dm,Th d:=by
   rw[<- hM];exact faA (faA (c4! (nE! he kQ kW) (nE! kg (k2.up (by decide)) kW) (m6! (nE! kg kQ (k3.up (by decide))))) (c4! (nE! kg kW kQ) (nE! (bg 1 z1) kV kW) (c4! (nE! kg kV kW) (nE! (bg _ z2) kQ kX) faN))) (c4! (Th.other rfl nofun) (nE! kg Bn.lst kW) (c4! (Th.tup kg (m6! kQ)) (Th.tup kg (c4! kQ kW (m6! k0))) (m6! (zrp ho))))
  refine⟨dm[r4.toNat],s5,?_,th _ (_J fK),aJ! (aJ! (aJ! (d1.trans l7) l8) ma) d5⟩;simp only[yq,Mof,qI,st,_d,_k,_v];rw[zm f1,zm f2,zm f3,zm f4,zm f5,zm f6,f7]
 exact key _ _ _ _ rfl rfl rfl rfl
end
end aW
namespace Pr
open L2 Dd Pm Pg Pn Po
theorem m_many(n:Nat)(b:Nat):∃k:Nat,(an! ((an! (j! b<j! n) (j! b) n) > 1) (an! (j! b<j! n) (j! b) n) 1)=j! k/\k<=b+1:=by
 by_cases h:j! b<n
 ·rw[_g h];by_cases h2:j! b > 1;·exact⟨b,by rw[_g h2],by lia⟩
  ·exact⟨1,by rw[_o h2];rfl,by lia⟩
 ·rw[_o h];by_cases h2:j! n > 1;·exact⟨n,by rw[_g h2],by lia⟩
  ·exact⟨1,by rw[_o h2];rfl,by lia⟩
end Pr
namespace aW
open L2 Dd Pm Pg Pn Po Pb
noncomputable abbrev EV(sc:D)(a1 a2 a3 a4 a5 a6 a7 a8:fN!):Ev:=[b! sc,a1,a2,a3,a4,a5,a6,a7,a8]
noncomputable abbrev zqR:D->Ev->ee! Fl:=eO! (yh 1 d ρ s) ((zy z6k (dB! z80 z7q z6F z6Z (dB! z7e z73 z3l z3J z3v))) ρ' s')
def EL(ns:h!)(ρ:Ev):g!:=∃a1 a2 a3 a4 a5 a6 a7 a8,ρ=EV dF! a1 a2 a3 a4 a5 a6 a7 a8
theorem ix0{f:FE}{ρ:Ev}{x:D}{xs:x!}{s:Sto}(h:ay!=bw! (x::xs)):hF! f A! ρ s=k! x:=by
 rw[op2 h (qE ..)];exact kN! (by decide)
section
variable {sc:D}{a1 a2 a3 a4 a5 a6 a7 a8:fN!}{n l:Nat}{v:h!}{r:Rl}{ls:fr!}{z:h!}{k:Nat}{B:Tb}{b:h!}{s:Sto}
theorem zpW(x:Str) (hx:PyData.strOk x=d!) (s:Sto):dNe a1! a1! s=c6!:=ne_self (k:=0) (d:=a1!) hx (by decide) s
noncomputable abbrev zaS(v b:h!):D:=n! [c! b5!,rD (zeX v),rD b]
theorem zuj(h:j2!) (S:Sh r n v ls z k B b):z6Z (EV sc a1 a2 bo! d7! ji! a6 a7 a8) s=aN! (EV sc a1 a2 bo! d7! ji! (kC! v b) a7 a8):=by
 have gb:=z9U h;have c:=comp_map (fi:=kO!) (mp:=F! 5) (fg:=yh 1) (fe:=dz! z45 1 u!) (ρ:=EV sc a1 a2 bo! d7! ji! a6 a7 a8) (s:=s) D.int (mW! (x / b5!)) (λx=>[ji!,e! x]) v (qV p!) (λx _=>by simp) (ac! (by rw[op2 (x:=c! x) (y:=c! b5!) p! p!,zao,bS! gb.2 (zsb gb.1 (by decide))])) (by have:=h.toLot.le4;simp[cap];lia);rw[show v.map (mW! (x / b5!))=iL (zeX v) by simp[zeX,_N]]at c;rw[z6Z,zR,zk1 p! (by rw[yF c,z2a]) (ix0 (by rw[mn!];exact zoV h S s))];rfl
theorem zkS(h:z!<=4)(hb:ps!<=4):uJ 3 (zaS v b):=by
 have hq:t! (zeX v)<=4:=by simpa[zeX] using h
 refine⟨by simp[cap],ac! ?_⟩;simp only[_C,_ck,or_false]at hx;rcases hx with rfl | rfl | rfl;·trivial
 ·exact zex 1 (by lia)
 ·exact zex 1 (by lia)
theorem ztc(h:j2!)(S:Sh r n v ls z k B b):z7e (EV sc a1 a2 bo! d7! a5 (kC! v b) a7 a8) s=aN! (EV sc a1 a2 bo! d7! a5 (kC! v b) a7 a8):=by
 have lb:=(S.b_ok).1;have n4:n<=4:=by have:=h.sz;unfold Sz at this;lia
 have t:tOf (ze Pg.uz (ip! (ze zT (fB! A! 4 3)) 6)) (EV sc a1 a2 bo! d7! a5 (kC! v b) a7 a8) s=ky!:=by
  refine vo ?_;rw[call2 (by rw[zfU rfl p! p!];exact zpV h S s) p!];exact zlz (k:=0) s (zkS (by rw[h.len];exact n4) (by lia))
 rw[z7e,zdz];·rfl
 ·exact zrA (zdB t) (zdB t)
theorem zrC(h:j2!)(S:Sh r n v ls z k B b):Th (zaS v b):=by
 have gb:=z9U h;have bo:=S.b_ok;refine nE! (It.int gb.1 (by decide)) (Bn.row4 (m:=104) (ac! ?_) (by decide)) (Bn.row4 bo.2.1 (by decide));obtain⟨y,hy,rfl⟩:=gB!;have y0:=h.nn y hy;have le:y / b5!<=y:=_dG _ y0;have nn:0<=y / b5!:=_bU y0 (by lia);have:=h.abs y hy;lia
theorem zst{things:x!}(h:j2!)(ht:∀d∈things,Th d):∃y7,yT [] things (eO! (yh 7 d ρ s) (z36 ρ' s')) things (EV sc a1 a2 bo! a4 a5 a6 a7 a8) s=aN! (EV sc a1 a2 bo! a4 a5 a6 y7 a8):=by
 obtain⟨ρ',s',e,y7,e1,e2⟩:=zag (body:=eO! (yh 7 d ρ s) (z36 ρ' s')) (fun ρ S'=>∃y7,ρ=EV sc a1 a2 bo! a4 a5 a6 y7 a8/\S'=s) things (λx hx ρ S' hI=>by
  obtain⟨y7,rfl,rfl⟩:=hI;obtain⟨w,t1,t2⟩:=zmT h (ht x hx).tn (ht x hx).hd S';refine⟨EV sc a1 a2 bo! a4 a5 a6 fd! a8,S',?_,fd!,rfl,rfl⟩;rw[vX,Rb];show z36 (EV sc a1 a2 bo! a4 a5 a6 fd! a8) S'=_;rw[z36,zdz];·rfl
  ·refine zdB (vo ?_);rw[call2 (by rw[zfU rfl p! p!];exact zqK t1) (by rw[mn!];exact t2)];exact zlz (k:=0) S' trivial) (EV sc a1 a2 bo! a4 a5 a6 a7 a8) s (aH! a7 rfl);exact⟨y7,rR! (by rw[e1,e2])⟩
theorem ztf(h:j2!) (S:Sh r n v ls z k B b) (hp:Pot s l):∃y7 s',z73 (EV sc a1 J! bo! a4 a5 (kC! v b) a7 a8) s=H! (EV sc a1 J! bo! a4 a5 (kC! v b) y7 a8) s'/\vK s s' l:=by
 have bo:=S.b_ok;have gb:=z9U h;have n4:2<=n/\n<=4:=by have:=h.sz;unfold Sz at this;lia
 have ql:t! (zeX v)=n:=by simp[zeX,h.len]
 have bq:∀x∈zeX v,de! 104:=ac! (by
  obtain⟨y,hy,rfl⟩:=gB!;have y0:=h.nn y hy;have le:y / b5!<=y:=_dG _ y0;have nn:0<=y / b5!:=_bU y0 (by lia);have:=h.abs y hy;lia)
 obtain⟨ys,s1,e,hl,hT,dr⟩:=zni (fi:=jV (a0! (E! 4))) (mp:=fv! 2 3 6) (fg:=yh 3) (fe:=ze yq (fB! u! 1 2)) (ρ:=EV sc a1 J! bo! a4 a5 (kC! v b) a7 a8) (fL! (aa! k)) (λk=>[J!,bo!,kC! v b,bh!]) (λS'=>vK s S' l) Th (iM! 4) (qZ (n:=4) (s1:=s) (by decide) rfl) (λa _ S'=>rfl) (λa _ S' dS=>by
   obtain⟨d,s',e1,th,d1⟩:=z8j (s:=S') (v:=v) dS.pot h.abs gb.1 bq (by lia) (by lia) bo.2.1 (by lia) (by lia);exact⟨d,s',by rw[zfU p! p! p!];exact e1,th,dS.trans d1⟩) (by simp[cap]) (vK.refl hp);obtain⟨y7,lp⟩:=zst (sc:=sc) (a1:=a1) (a2:=J!) (a4:=a4) (a5:=a5) (a6:=kC! v b) (a7:=a7) (a8:=a8) (s:=s1) (things:=zaS v b::ys) h (il! (by
  rcases ep! hd with rfl | hd;·exact zrC h S
  ·exact hT d hd));refine ck! y7 s1 ?_ dr;have lst:eOp xf (qg (b9! 6)) (i7! (jV (a0! (E! 4))) (fv! 2 3 6) 3 (ze yq (fB! u! 1 2))) (EV sc a1 J! bo! a4 a5 (kC! v b) a7 a8) s=I! (X! (zaS v b::ys)):=by
  rw[opS (zwK p!) e,z77,_g (by rw[hl];simp[cap])];rfl
 rw[z73,jP,jZ,lst,Rb];simp only[Rb];exact lp
end
section
variable {sc:D}{a1 a2 a3 a4 a5 a6 a7 a8:fN!}{n l:Nat}{v:h!}{r:Rl}{s:Sto}{dd bad:D}
theorem zrZ(hk:Kd bad):z3J (EV sc a1 a2 a3 d7! a5 (b! dd) a7 lc!) s=aN! (EV sc a1 a2 a3 d7! a5 (b! dd) a7 lc!):=by
 rw[z3J,zdz];·rfl
 ·rcases zk5 hk s with⟨n',v',rfl,hv,h1,h2⟩ | ⟨h1,h2⟩
  ·rw[zj3,vG,vo (by rw[hb!,h2])];rfl
  ·rw[zj3,vG,vo (by rw[hb!,h2])];simp only[Rb,_v];have c2:eM! 2<=cap:=by decide
   refine vo ?_;rw[op2 ?_ (twice ..),zpT (by decide +kernel)];have g1:ze zT (fB! A! 4 8) (EV sc a1 a2 a3 d7! a5 (b! dd) a7 lc!) s=k! (aD! aj!):=by rw[zfU rfl p! p!];exact zjO r h1
   have g2:ze zT (fB! ah! 8 6) (EV sc a1 a2 a3 d7! a5 (b! dd) a7 lc!) s=k! (aD! aj!):=by rw[zfU rfl p! p!];exact zgJ h1
   simp only[z26,zq,zL,g1,g2,Rb,_d,_k,_g c2]
theorem zr8{d3:D} (hp:Pot s l):∃s',z3v (EV sc a1 J! (b! d3) d7! a5 a6 a7 lc!) s=H! (EV sc a1 J! (b! d3) d7! a5 a6 a7 lc!) s':=by
 obtain⟨no,s1,e1,gn,d1⟩:=zhn r hp;obtain⟨t,s2,e2,t0,t1,d2⟩:=vC (f:=P!) (g:=E! 2) (far:=2) (ρ:=EV sc a1 J! (b! d3) d7! a5 a6 a7 lc!) d1.pot (by decide) (kL (by decide)) rfl rfl;have ix:∃y,c9! (X! [d3,bad]) t s2=ba! y:=by
  have:t=0\/t=1:=by lia
  rcases this with rfl | rfl;·exact⟨d3,kN! (by decide)⟩
  ·exact⟨bad,kN! (by decide)⟩
 obtain⟨y,iy⟩:=ix;have l2:qg (hY! 3 8) (EV sc a1 J! (b! d3) d7! a5 a6 a7 lc!) s1=I! (X! [d3,bad]):=rfl;have w:ze zT (zb A! (cc! (gz! Pg.xq 2 4) (co! (qg (hY! 3 8)) (es! pS! P! (E! 2))))) (EV sc a1 J! (b! d3) d7! a5 a6 a7 lc!) s=ba! (aD! cx!):=by
  have n1:ze Pg.xq (hY! 2 4) (EV sc a1 J! (b! d3) d7! a5 a6 a7 lc!) s=I! no:=by rw[mn!,e1]
  have n2:=opS (o:=dIx) l2 e2;rw[iy]at n2;rw[yj,zq,qE,Rb,zq,n1,Rb,zq,n2,Rb,zL];simp only[Rb];exact zin (zqg gn s2)
 have w2:tOf (eOp dNe (ze zT (zb A! (cc! (gz! Pg.xq 2 4) (co! (qg (hY! 3 8)) (es! pS! P! (E! 2)))))) (bL! cx!)) (EV sc a1 J! (b! d3) d7! a5 a6 a7 lc!) s=ba! q!:=by
  rw[tOf,opS w (qE ..),zpW _ (by decide +kernel)];rfl
 refine as! s2 ?_;rw[z3v,kI,w2];rfl
end
theorem zoX(ns:h!) (j:Nat) (ρ:Ev) (s:Sto) (h:EL ns ρ):∃ ρ' s',zqR (c! j) ρ s=H! ρ' s'/\EL ns ρ':=by
 obtain⟨a1,a2,a3,a4,a5,a6,a7,a8,rfl⟩:=h;rw[show zqR (c! j) (EV dF! a1 a2 a3 a4 a5 a6 a7 a8) s=(zy z6k (dB! z80 z7q z6F z6Z (dB! z7e z73 z3l z3J z3v))) (EV dF! aO! a2 a3 a4 a5 a6 a7 a8) s from rfl];obtain⟨c,e1⟩:=zq5 ns j s;obtain⟨q,e2⟩:=zud c s;have hp:Pot (s++[[c! q]]) aW!:=⟨q,by simp⟩;obtain⟨n,v,s1,e3,hv,d1⟩:=zuB hp;have n4:2<=n/\n<=4:=by have:=hv.sz;unfold Sz at this;lia
 have f2:z6k (EV dF! aO! a2 a3 a4 a5 a6 a7 a8) s=H! (EV dF! aO! ad! a3 a4 a5 a6 a7 a8) (s++[[c! q]]):=by rw[z6k,zR,yF (by rw[mn!,e1]),e2];rfl
 have f3:z80 (EV dF! aO! ad! a3 a4 a5 a6 a7 a8) (s++[[c! q]])=gH! (EV dF! aO! ad! bo! a4 a5 a6 a7 a8):=by rw[z80,zR,hb!,e3];rfl
 obtain⟨r,s2,e4,d2⟩:=zqk (f:=P!) (ρ:=EV dF! aO! ad! bo! a4 a5 a6 a7 a8) d1.pot p!;have f4:z7q (EV dF! aO! ad! bo! a4 a5 a6 a7 a8) s1=H! (EV dF! aO! ad! bo! d7! a5 a6 a7 a8) s2:=by rw[z7q,zR,e4];rfl
 have f5:z6F (EV dF! aO! ad! bo! d7! a5 a6 a7 a8) s2=H! (EV dF! aO! ad! bo! d7! ji! a6 a7 a8) s2:=by rw[z6F,zR,hb!,zqd i0!];rfl
 obtain⟨ls,z,k,B,b,S⟩:=zu0 r hv;have f6:=zuj (sc:=dF!) (a1:=aO!) (a2:=ad!) (a6:=a6) (a7:=a7) (a8:=a8) (s:=s2) hv S;have f7:=ztc (sc:=dF!) (a1:=aO!) (a2:=ad!) (a5:=ji!) (a7:=a7) (a8:=a8) (s:=s2) hv S;obtain⟨y7,s3,f9,d3⟩:=ztf (sc:=dF!) (a1:=aO!) (a4:=d7!) (a5:=ji!) (a7:=a7) (a8:=a8) hv S d2.pot;have lv:=hv.len;obtain⟨bad,s4,pJ,kb,d4⟩:=zj7 d3.pot hv.abs (by decide) (by lia) (by lia);have f12:z3l (EV dF! aO! ad! bo! d7! ji! (kC! v b) y7 a8) s3=H! (EV dF! aO! ad! bo! d7! ji! (kC! v b) y7 lc!) s4:=by rw[z3l,zR,mn!,pJ];rfl
 have f13:=zrZ (sc:=dF!) (a1:=aO!) (a2:=ad!) (a3:=bo!) (a5:=ji!) (dd:=zaS v b) (a7:=y7) (r:=r) (s:=s4) kb.kd;obtain⟨s5,f15⟩:=zr8 (sc:=dF!) (a1:=aO!) (d3:=O!) (r:=r) (a5:=ji!) (a6:=kC! v b) (a7:=y7) (bad:=bad) d4.pot;have w:=aJ! (zm f2) (g3! (zm f3) (zm f4) (g3! (zm f5) (zm f6) (g3! (zm f7) (zm f9) (g3! (zm f12) (zm f13) f15))));exact⟨_,s5,w,_,_,_,_,_,_,_,_,rfl⟩
theorem zrT(ns:h!):∃ ρ' s',zdk (EV dF! a! a! a! a! a! a! a! a!) []=H! ρ' s':=by
 obtain⟨k,ek,hk⟩:=Pr.m_many e1! 12;rw[show aa! 12=12 from rfl]at ek;obtain⟨ρ',s',e,_⟩:=zag (fun ρ _=>EL ns ρ) (yr k) (λx hx ρ s hI=>by
  obtain⟨j,_,rfl⟩:=zg4 hx;exact zoX ns j ρ s hI) (EV dF! a! a! a! a! a! a! a! a!) [] ⟨_,_,_,_,_,_,_,_,rfl⟩;refine a3! ρ' s' ?_;unfold zdk;rw[jP,qZ (n:=k) (s1:=[]) (by lia) (by simp only[yj,zq,zL,qE,ym,_c,Rb,yC,zY,_z,zlh,zkX,ek]),Rb];exact e
theorem zl2:∀ns:List Int,e1!<=63->∃s',zor [.scr is!] []=bz! eQ!:=λns hn=>by
 obtain⟨ρ',s',e⟩:=zrT ns;refine as! s' ?_;have st:zv [lU!,pA!,dy!,bP!,f1!,oG!,kZ!,dP!,"_law_bad"] [.scr is!]=EV dF! a! a! a! a! a! a! a! a!:=rfl;unfold zor Mof zlA;rw[_g (by rfl),st,zm e];rfl
end aW
namespace aW
open L2 Dd Pg
theorem zpm:∀x∈rsX,x∈askQ.xs:=by decide +kernel
theorem zwO:∀x∈csX,x∈askQ.xs:=by decide +kernel
theorem zwQ:∀x∈rsX,∀y∈csX,((x,y),x==y)∈askQ.ps:=by decide +kernel
theorem zwL:o! lz!∈askQ.xs:=by decide +kernel
theorem zwZ:∀x∈rsX,((x,o! lz!),d!)∈askQ.ps:=by decide +kernel
theorem all_mk{P:Program}{w:World}{K:W.Frag}{h:Heap}{mg:Str->aU!}{fa:Addr}(X:hC!)(G:oP! mg)(pK:fx! "law" (y! fa))(e:zeA hl! K=jt! hl!) : ∃fd:FuncData,(∀(s:Shared)(v:Value),qx! s fd (dT! [v]) [(lU!,v)])/\∀base:Heap,K.In R!->sB! mg->za7 P w K mg R! CX0 16 fa fd [lU!] (zoh K):=by
 obtain⟨rd,re,pL,md⟩:=zmd X G e 71 rfl;have e0:=pK.symm.trans pL;cases e0;obtain⟨oc,od,kV,aE,pm,an,aj,ct,cC,rfl,hl,hc⟩:=md.ex;have GG:∀(x:Str)(v:Value),gx! K x=b! bV!->fx! x v:=λx v h=>W.mg_of X G h;have:Txt P w K mg:=⟨zlV X G e 0 rfl,zlV X G e 1 rfl,qf X G e 0 rfl,qf X G e 1 rfl,qf X G e 2 rfl,qf X G e 3 rfl,qf X G e 4 rfl,qf X G e 5 rfl,qf X G e 6 rfl,qf X G e 7 rfl,qf X G e 8 rfl,qf X G e 9 rfl,qf X G e 10 rfl,qf X G e 11 rfl,qf X G e 12 rfl,qf X G e 13 rfl,qf X G e 14 rfl,qf X G e 15 rfl,qf X G e 16 rfl,λi _ _=>zmd X G e i,zsN X G e "RULES" zf4 (_x (i:=0) rfl),z9N GG (zbr e hk! (zpm _ (by decide +kernel))),z9N GG (zbr e hj! (zpm _ (by decide +kernel))),z9N GG (zbr e jy! (zpm _ (by decide +kernel))),z9N GG (zbr e jz! (zpm _ (by decide +kernel))),zh7 GG (ac! (zbr e x (zpm x hx))) (ac! (zbr e x (zwO x hx))) (λx hx y hy=>by rw[zrV e x y (x==y) (zwQ x hx y hy)];rfl),ac! (zoR GG (zbr e x (zpm x hx)) (zbr e lz! zwL) (by rw[zrV e x lz! d! (zwZ x hx)];rfl))⟩;refine⟨W.fnOf "law" "law" (kh z8M) (xP z8M) (zj z8M) ab! kV aE pm an aj ct,λs v=>.of_eq rfl,λbase _ _=>?_⟩;exact zrO (x:="law") (zfo md) zl2
theorem boot_:∀w:World,j7! (W.fencedOpening n6! qf! w 12154) (L!,s.gens,s.drawn,fZ!)=b! (kn!,jU!,qg!,qh!):= W.boot_open (by kernel_rfl) (by decide) (λs=>by kernel_rfl)
theorem left_:W.LeftO qf! qv looseQ xtQ (obsS hl!) (valS hl!) 12154:=ziu "special-get-raises" boot_ (λw os=>z8L (f:=λs=>(nh! s,obsS hl! s)) (zvu w) (bsz w) (zcL (zaU w os) (zbI w os))) (λw os=>z8L (f:=λs=>(nh! s,obsS hl! s)) (zvu w) (bsz w) (zcL (zdo w os) (zdF w os)))
end aW
end
end
open PySem PySem.Spec PyProof.Rows
open PySem.W
set_option maxRecDepth 100000 in
set_option maxHeartbeats 0 in
theorem PySem.Challenge.cw_drawndown_k23_showings_holds : PySem.Challenge.rw_drawndown_k23_showings.Holds := by
  w_on; refine holds_law aW.said_ λpM => ?_
  refine holds_open (q := aW.qv) (loose := aW.looseQ) (Xt := aW.xtQ) (XP := XL aW.qv aW.lvQ) (Yf := Dd.obsS aW.askQ) (Ya := Dd.valS aW.askQ) (YP := Dd.saysS aW.askQ) (N := 12154) aW.left_ (Dd.zmX aW.askQ) (Dd.zfX aW.askQ) (λs e => xl_of s (_ad.mp e).1) XL.keeps (by rfl) (by rfl) (by rfl) (λs e => recFacts_of (_ad.mp e).2) (by rfl) (by first | assumption | decide +kernel) (by decide +kernel) ⟨rfl, rfl, rfl, rfl, rfl, by decide +kernel⟩ ?hw ?hc
  (case hw => w_witness2)
  refine Dd.walkY (l := PySem.Challenge.rw_drawndown_k23_showings) (n := 63) (k := 16) (x := "_law_script") rfl (by decide) (by decide) rfl ⟨rfl, by decide, by decide, rfl⟩ ?F
  case F =>
    intro w mg fa h Yy G cU XP
    obtain⟨K, KX, e⟩ := Yy
    exact⟨K, KX, aW.all_mk KX G cU e ⟩
