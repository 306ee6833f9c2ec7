import PyProof.Rows.All
import Wide.All
import OpenK.AllK
import Wide.FinOn

